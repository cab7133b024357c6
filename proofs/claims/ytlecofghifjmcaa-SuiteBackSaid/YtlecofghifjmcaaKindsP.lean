/-
  Package kinds, walked: its small functions.
  Package kinds, walked: the ways that nodes are made, in a map by their tags.
  Package kinds, walked: whether kids fit a way, a way at a time.
  Package kinds, walked: the kind of a node of a way.
  Package kinds: a node's kind by its way is its kind by the rule.
  Package kinds: rows of parts, the first one last: plain facts, and rows in memory.
  Package kinds, walked: a node's kind.
  Package kinds, walked: variables, two programs, a program: what its functions come to.
  Package kinds, walked: two programs, a program: what its functions come to.
-/
import Derived.Test.YtlecofghifjmcaaKindsG
import Derived.Test.YtlecofghifjmcaaArenaH
import Derived.Maps.OwnOps
import Derived.Deep.QuietTactic
import Derived.Deep.RegionHeld3
import Derived.Deep.DrawnRows
namespace Go.Proofs.Ytlecofghifjmcaa.Kinds
open Go.RowKit Mem _root_.Go.Proofs.Ytlecofghifjmcaa.Arena
set_option linter.unusedVariables false

def odd (t : Int) : Bool := decide (t < 0 ∨ 9 < t)
def nonum (t : Int) : Bool := t != 0
def isblk (x : Nd) : Bool := decide (x.1 = 20 ∧ x.2 = 2)
def other (q : Int) (x : Nd) : Bool := x.2 != q
def noblk (x : Nd) : Bool := !(isblk x)
theorem any_snoc {α : Type} (P : α → Bool) (xs : List α) (k : Nat) (x : α) (h : xs[k]? = some x) : (xs.take (k + 1)).any P = ((xs.take k).any P || P x) := by
  rw [List.take_add_one, h]; simp
theorem any_at {α : Type} {P : α → Bool} {xs : List α} {k : Nat} {x : α} (h : xs[k]? = some x) (hx : P x = true) : xs.any P = true :=
  List.any_eq_true.2 ⟨x, List.mem_of_getElem? h, hx⟩

end Go.Proofs.Ytlecofghifjmcaa.Kinds

namespace Go.Proofs.Ytlecofghifjmcaa.Kinds
open Go.RowKit Mem _root_.Go.Proofs.Ytlecofghifjmcaa.Arena
set_option linter.unusedVariables false

/-- A write of a map's literal, at the operation. -/
theorem wpList_insert_own {H : Type} {P : Program} (w : World) {ops : Array Oper} {rest : List Oper} {o : Oper} {a : Act} {Q : Exit → Act → World → Prop}
    (hg : o.guard = none) (m x v : Operand) (t : TypeId) (hop : o.op = Op.insert t m x v)
    (k e : TypeId) (K : Go.Maps.Keyed P k) (ht : P.underlying t = some (.map k e)) (R : Value → Option (DataW H × List MemPlace)) (b n : Nat) (D : DataW H)
    (hm : a.eval m = .map (some b)) (hown : w.ownsMap P k R b n D) (hn : n < maxLen) (key val : Value) (kl : Lit) (hx : a.eval x = key) (hv : a.eval v = val) (hkey : keyOf P k key = some kl)
    (d : DataW H) (ps : List MemPlace) (hval : R val = some (d, ps))
    (hK : ∀ w', w'.ownsMap P k R b (n + 1) (D.put kl d) → w.grownBy w' (some b) → wpList P ops Q rest (a.put o.dst undef) w') :
    wpList P ops Q (o :: rest) a w := by
  refine wpList_plain hg fun K' hK' => ?_
  obtain ⟨w', hrun, r1, r2⟩ := hown.update K ht hn hkey hval
  unfold Oper.wp
  simp [execOp, hop, hm, hx, hv, hrun, Result.andThen]
  exact hK' _ _ (hK w' r1 r2)
/-- A new map, at the operation. -/
theorem wpList_map_own {H : Type} {P : Program} (w : World) {ops : Array Oper} {rest : List Oper} {o : Oper} {a : Act} {Q : Exit → Act → World → Prop}
    (hg : o.guard = none) (t : TypeId) (hop : o.op = Op.makeMap t none) (k : TypeId) (R : Value → Option (DataW H × List MemPlace))
    (hK : ∀ b w', b = w.heap.size → w'.ownsMap P k R b 0 (.map []) → Below w.heap.size w w' → wpList P ops Q rest (a.put o.dst (.map (some b))) w') :
    wpList P ops Q (o :: rest) a w := by
  refine wpList_plain hg fun K' hK' => ?_
  have hrun := @run_makeMap P t w
  unfold Oper.wp
  simp [execOp, hop, hrun, Result.andThen]
  exact hK' _ _ (hK _ _ rfl (World.ownsMap_made w P k R) ((Below.refl _ _).alloc (Nat.le_refl _) _))

/-- An element reads as itself. -/
def itself (v : Value) : Option (DataW Value × List MemPlace) := some (.held v, [])
theorem key_int : Go.Maps.Keyed Try.prog 3 := Go.Maps.int_keyed Try.underlying3
end Go.Proofs.Ytlecofghifjmcaa.Kinds

namespace Go.Proofs.Ytlecofghifjmcaa.Kinds
open Go.RowKit Mem _root_.Go.Proofs.Ytlecofghifjmcaa.Arena
set_option linter.unusedVariables false

end Go.Proofs.Ytlecofghifjmcaa.Kinds

namespace Go.Proofs.Ytlecofghifjmcaa.Kinds
open Go.RowKit Mem _root_.Go.Proofs.Ytlecofghifjmcaa.Arena
set_option linter.unusedVariables false

inductive Way where
  | alike (k g : Int)
  | elem (g : Int)
  | value
  | setting
  | branching
def Way.fits : Way → Int → List Nd → Bool
  | .alike k g, _, xs => xs.all fun x => x.2 == k
  | .elem g, t, xs => decide (0 < asz t) && (xs.all fun x => x.2 == 0)
  | .value, t, _ => decide (t = 0 ∨ t = 1)
  | .setting, t, xs => decide (t = 0 ∨ t = 1) && (xs.all fun x => x.2 == t)
  | .branching, _, xs => (xs.getD (xs.length - 1) (0, 0)).2 == 1 && (xs.take (xs.length - 1)).all isblk
def Way.gives : Way → Int → Int
  | .alike k g, _ => g
  | .elem g, _ => g
  | .value, t => t
  | .setting, _ => 2
  | .branching, _ => 2
def Way.branches : Way → Prop
  | .branching => True
  | _ => False

/-- A tag's way. -/
def cls (t : Int) : Way :=
  if t = 2 then .alike 0 1 else if t = 3 then .value else if t = 4 then .elem 0 else if t = 6 then .alike 1 1
  else if 12 ≤ t ∧ t ≤ 17 then .alike 0 1 else if t = 18 ∨ t = 19 then .alike 1 1 else if t = 20 then .alike 2 2
  else if t = 21 then .setting else if t = 22 then .elem 2 else if t = 23 ∨ t = 24 then .branching
  else if t = 25 ∨ t = 26 then .alike 0 2 else .alike 0 0
/-- Kids, the first one last, as a tag and a kind. -/
def sw (y : Int × Int) : Nd := (y.2, y.1)
theorem ar_tag {x : Nd} (h : 0 ≤ ar x) : 1 ≤ x.1 ∧ x.1 ≤ 26 := by
  unfold ar asks at h
  by_cases h1 : x.1 = 1
  · omega
  rw [if_neg h1] at h
  split at h
  · omega
  · rename_i hq
    revert h hq
    repeat' split
    all_goals (intros; omega)

end Go.Proofs.Ytlecofghifjmcaa.Kinds

namespace Go.Proofs.Ytlecofghifjmcaa.Kinds
open Go.RowKit Mem _root_.Go.Proofs.Ytlecofghifjmcaa.Arena
set_option linter.unusedVariables false
set_option linter.unusedSimpArgs false

theorem ar_asks {x : Nd} (h : 0 ≤ ar x) : ar x = if x.1 = 1 then 0 else (asks x.1 x.2).1 := by
  unfold ar at *
  by_cases h1 : x.1 = 1
  · rw [if_pos h1, if_pos h1]
  · rw [if_neg h1] at h ⊢
    rw [if_neg h1]
    split at h
    · omega
    · rename_i hq; rw [if_neg hq]
theorem if_same {p q : Prop} [Decidable p] [Decidable q] (h : p ↔ q) (a b : Int) : (if p then a else b) = if q then a else b := by
  by_cases hp : p
  · rw [if_pos hp, if_pos (h.1 hp)]
  · rw [if_neg hp, if_neg (fun hq => hp (h.2 hq))]
theorem len0 {ks : List (Int × Int)} (h : ks.length = 0) : ks = [] := List.length_eq_zero_iff.1 h
theorem len1 {ks : List (Int × Int)} (h : ks.length = 1) : ∃ a, ks = [a] := List.length_eq_one_iff.1 h
theorem len2 {ks : List (Int × Int)} (h : ks.length = 2) : ∃ a b, ks = [a, b] := by
  match ks, h with
  | [a, b], _ => exact ⟨a, b, rfl⟩
theorem len3 {ks : List (Int × Int)} (h : ks.length = 3) : ∃ a b c, ks = [a, b, c] := by
  match ks, h with
  | [a, b, c], _ => exact ⟨a, b, c, rfl⟩
theorem rule_1 (vs : List Int) (n : Int) (ks : List (Int × Int)) (hl : ks.length = 0) : rule vs (1, n) ks = if (cls 1).fits (vtyp vs n) (ks.map sw).reverse then (cls 1).gives (vtyp vs n) else -1 := by
  obtain rfl := len0 hl
  simp [rule, cls, Way.fits, Way.gives, ifso, sw, isblk, blks] <;> exact if_same (by omega) _ _
theorem rule_2 (vs : List Int) (n : Int) (ks : List (Int × Int)) (hl : ks.length = 0) : rule vs (2, n) ks = if (cls 2).fits (vtyp vs n) (ks.map sw).reverse then (cls 2).gives (vtyp vs n) else -1 := by
  obtain rfl := len0 hl
  simp [rule, cls, Way.fits, Way.gives, ifso, sw, isblk, blks] <;> exact if_same (by omega) _ _
theorem rule_3 (vs : List Int) (n : Int) (ks : List (Int × Int)) (hl : ks.length = 0) : rule vs (3, n) ks = if (cls 3).fits (vtyp vs n) (ks.map sw).reverse then (cls 3).gives (vtyp vs n) else -1 := by
  obtain rfl := len0 hl
  simp [rule, cls, Way.fits, Way.gives, ifso, sw, isblk, blks] <;> exact if_same (by omega) _ _
theorem rule_4 (vs : List Int) (n : Int) (ks : List (Int × Int)) (hl : ks.length = 1) : rule vs (4, n) ks = if (cls 4).fits (vtyp vs n) (ks.map sw).reverse then (cls 4).gives (vtyp vs n) else -1 := by
  obtain ⟨a, rfl⟩ := len1 hl
  obtain ⟨a1, a2⟩ := a
  simp [rule, cls, Way.fits, Way.gives, ifso, sw, isblk, blks] <;> exact if_same (by omega) _ _
theorem rule_5 (vs : List Int) (n : Int) (ks : List (Int × Int)) (hl : ks.length = 1) : rule vs (5, n) ks = if (cls 5).fits (vtyp vs n) (ks.map sw).reverse then (cls 5).gives (vtyp vs n) else -1 := by
  obtain ⟨a, rfl⟩ := len1 hl
  obtain ⟨a1, a2⟩ := a
  simp [rule, cls, Way.fits, Way.gives, ifso, sw, isblk, blks] <;> exact if_same (by omega) _ _
theorem rule_6 (vs : List Int) (n : Int) (ks : List (Int × Int)) (hl : ks.length = 1) : rule vs (6, n) ks = if (cls 6).fits (vtyp vs n) (ks.map sw).reverse then (cls 6).gives (vtyp vs n) else -1 := by
  obtain ⟨a, rfl⟩ := len1 hl
  obtain ⟨a1, a2⟩ := a
  simp [rule, cls, Way.fits, Way.gives, ifso, sw, isblk, blks] <;> exact if_same (by omega) _ _
theorem rule_7 (vs : List Int) (n : Int) (ks : List (Int × Int)) (hl : ks.length = 2) : rule vs (7, n) ks = if (cls 7).fits (vtyp vs n) (ks.map sw).reverse then (cls 7).gives (vtyp vs n) else -1 := by
  obtain ⟨a, b, rfl⟩ := len2 hl
  obtain ⟨a1, a2⟩ := a
  obtain ⟨b1, b2⟩ := b
  simp [rule, cls, Way.fits, Way.gives, ifso, sw, isblk, blks] <;> exact if_same (by omega) _ _
theorem rule_8 (vs : List Int) (n : Int) (ks : List (Int × Int)) (hl : ks.length = 2) : rule vs (8, n) ks = if (cls 8).fits (vtyp vs n) (ks.map sw).reverse then (cls 8).gives (vtyp vs n) else -1 := by
  obtain ⟨a, b, rfl⟩ := len2 hl
  obtain ⟨a1, a2⟩ := a
  obtain ⟨b1, b2⟩ := b
  simp [rule, cls, Way.fits, Way.gives, ifso, sw, isblk, blks] <;> exact if_same (by omega) _ _
theorem rule_9 (vs : List Int) (n : Int) (ks : List (Int × Int)) (hl : ks.length = 2) : rule vs (9, n) ks = if (cls 9).fits (vtyp vs n) (ks.map sw).reverse then (cls 9).gives (vtyp vs n) else -1 := by
  obtain ⟨a, b, rfl⟩ := len2 hl
  obtain ⟨a1, a2⟩ := a
  obtain ⟨b1, b2⟩ := b
  simp [rule, cls, Way.fits, Way.gives, ifso, sw, isblk, blks] <;> exact if_same (by omega) _ _
theorem rule_10 (vs : List Int) (n : Int) (ks : List (Int × Int)) (hl : ks.length = 2) : rule vs (10, n) ks = if (cls 10).fits (vtyp vs n) (ks.map sw).reverse then (cls 10).gives (vtyp vs n) else -1 := by
  obtain ⟨a, b, rfl⟩ := len2 hl
  obtain ⟨a1, a2⟩ := a
  obtain ⟨b1, b2⟩ := b
  simp [rule, cls, Way.fits, Way.gives, ifso, sw, isblk, blks] <;> exact if_same (by omega) _ _
theorem rule_11 (vs : List Int) (n : Int) (ks : List (Int × Int)) (hl : ks.length = 2) : rule vs (11, n) ks = if (cls 11).fits (vtyp vs n) (ks.map sw).reverse then (cls 11).gives (vtyp vs n) else -1 := by
  obtain ⟨a, b, rfl⟩ := len2 hl
  obtain ⟨a1, a2⟩ := a
  obtain ⟨b1, b2⟩ := b
  simp [rule, cls, Way.fits, Way.gives, ifso, sw, isblk, blks] <;> exact if_same (by omega) _ _
theorem rule_12 (vs : List Int) (n : Int) (ks : List (Int × Int)) (hl : ks.length = 2) : rule vs (12, n) ks = if (cls 12).fits (vtyp vs n) (ks.map sw).reverse then (cls 12).gives (vtyp vs n) else -1 := by
  obtain ⟨a, b, rfl⟩ := len2 hl
  obtain ⟨a1, a2⟩ := a
  obtain ⟨b1, b2⟩ := b
  simp [rule, cls, Way.fits, Way.gives, ifso, sw, isblk, blks] <;> exact if_same (by omega) _ _
theorem rule_13 (vs : List Int) (n : Int) (ks : List (Int × Int)) (hl : ks.length = 2) : rule vs (13, n) ks = if (cls 13).fits (vtyp vs n) (ks.map sw).reverse then (cls 13).gives (vtyp vs n) else -1 := by
  obtain ⟨a, b, rfl⟩ := len2 hl
  obtain ⟨a1, a2⟩ := a
  obtain ⟨b1, b2⟩ := b
  simp [rule, cls, Way.fits, Way.gives, ifso, sw, isblk, blks] <;> exact if_same (by omega) _ _
theorem rule_14 (vs : List Int) (n : Int) (ks : List (Int × Int)) (hl : ks.length = 2) : rule vs (14, n) ks = if (cls 14).fits (vtyp vs n) (ks.map sw).reverse then (cls 14).gives (vtyp vs n) else -1 := by
  obtain ⟨a, b, rfl⟩ := len2 hl
  obtain ⟨a1, a2⟩ := a
  obtain ⟨b1, b2⟩ := b
  simp [rule, cls, Way.fits, Way.gives, ifso, sw, isblk, blks] <;> exact if_same (by omega) _ _
theorem rule_15 (vs : List Int) (n : Int) (ks : List (Int × Int)) (hl : ks.length = 2) : rule vs (15, n) ks = if (cls 15).fits (vtyp vs n) (ks.map sw).reverse then (cls 15).gives (vtyp vs n) else -1 := by
  obtain ⟨a, b, rfl⟩ := len2 hl
  obtain ⟨a1, a2⟩ := a
  obtain ⟨b1, b2⟩ := b
  simp [rule, cls, Way.fits, Way.gives, ifso, sw, isblk, blks] <;> exact if_same (by omega) _ _
theorem rule_16 (vs : List Int) (n : Int) (ks : List (Int × Int)) (hl : ks.length = 2) : rule vs (16, n) ks = if (cls 16).fits (vtyp vs n) (ks.map sw).reverse then (cls 16).gives (vtyp vs n) else -1 := by
  obtain ⟨a, b, rfl⟩ := len2 hl
  obtain ⟨a1, a2⟩ := a
  obtain ⟨b1, b2⟩ := b
  simp [rule, cls, Way.fits, Way.gives, ifso, sw, isblk, blks] <;> exact if_same (by omega) _ _
theorem rule_17 (vs : List Int) (n : Int) (ks : List (Int × Int)) (hl : ks.length = 2) : rule vs (17, n) ks = if (cls 17).fits (vtyp vs n) (ks.map sw).reverse then (cls 17).gives (vtyp vs n) else -1 := by
  obtain ⟨a, b, rfl⟩ := len2 hl
  obtain ⟨a1, a2⟩ := a
  obtain ⟨b1, b2⟩ := b
  simp [rule, cls, Way.fits, Way.gives, ifso, sw, isblk, blks] <;> exact if_same (by omega) _ _
theorem rule_18 (vs : List Int) (n : Int) (ks : List (Int × Int)) (hl : ks.length = 2) : rule vs (18, n) ks = if (cls 18).fits (vtyp vs n) (ks.map sw).reverse then (cls 18).gives (vtyp vs n) else -1 := by
  obtain ⟨a, b, rfl⟩ := len2 hl
  obtain ⟨a1, a2⟩ := a
  obtain ⟨b1, b2⟩ := b
  simp [rule, cls, Way.fits, Way.gives, ifso, sw, isblk, blks] <;> exact if_same (by omega) _ _
theorem rule_19 (vs : List Int) (n : Int) (ks : List (Int × Int)) (hl : ks.length = 2) : rule vs (19, n) ks = if (cls 19).fits (vtyp vs n) (ks.map sw).reverse then (cls 19).gives (vtyp vs n) else -1 := by
  obtain ⟨a, b, rfl⟩ := len2 hl
  obtain ⟨a1, a2⟩ := a
  obtain ⟨b1, b2⟩ := b
  simp [rule, cls, Way.fits, Way.gives, ifso, sw, isblk, blks] <;> exact if_same (by omega) _ _
theorem rule_21 (vs : List Int) (n : Int) (ks : List (Int × Int)) (hl : ks.length = 1) : rule vs (21, n) ks = if (cls 21).fits (vtyp vs n) (ks.map sw).reverse then (cls 21).gives (vtyp vs n) else -1 := by
  obtain ⟨a, rfl⟩ := len1 hl
  obtain ⟨a1, a2⟩ := a
  simp [rule, cls, Way.fits, Way.gives, ifso, sw, isblk, blks] <;> exact if_same (by omega) _ _
theorem rule_22 (vs : List Int) (n : Int) (ks : List (Int × Int)) (hl : ks.length = 2) : rule vs (22, n) ks = if (cls 22).fits (vtyp vs n) (ks.map sw).reverse then (cls 22).gives (vtyp vs n) else -1 := by
  obtain ⟨a, b, rfl⟩ := len2 hl
  obtain ⟨a1, a2⟩ := a
  obtain ⟨b1, b2⟩ := b
  simp [rule, cls, Way.fits, Way.gives, ifso, sw, isblk, blks] <;> exact if_same (by omega) _ _
theorem rule_23 (vs : List Int) (n : Int) (ks : List (Int × Int)) (hl : ks.length = 3) : rule vs (23, n) ks = if (cls 23).fits (vtyp vs n) (ks.map sw).reverse then (cls 23).gives (vtyp vs n) else -1 := by
  obtain ⟨a, b, c, rfl⟩ := len3 hl
  obtain ⟨a1, a2⟩ := a
  obtain ⟨b1, b2⟩ := b
  obtain ⟨c1, c2⟩ := c
  simp [rule, cls, Way.fits, Way.gives, ifso, sw, isblk, blks] <;> exact if_same (by omega) _ _
theorem rule_24 (vs : List Int) (n : Int) (ks : List (Int × Int)) (hl : ks.length = 2) : rule vs (24, n) ks = if (cls 24).fits (vtyp vs n) (ks.map sw).reverse then (cls 24).gives (vtyp vs n) else -1 := by
  obtain ⟨a, b, rfl⟩ := len2 hl
  obtain ⟨a1, a2⟩ := a
  obtain ⟨b1, b2⟩ := b
  simp [rule, cls, Way.fits, Way.gives, ifso, sw, isblk, blks] <;> exact if_same (by omega) _ _
theorem rule_25 (vs : List Int) (n : Int) (ks : List (Int × Int)) (hl : ks.length = 1) : rule vs (25, n) ks = if (cls 25).fits (vtyp vs n) (ks.map sw).reverse then (cls 25).gives (vtyp vs n) else -1 := by
  obtain ⟨a, rfl⟩ := len1 hl
  obtain ⟨a1, a2⟩ := a
  simp [rule, cls, Way.fits, Way.gives, ifso, sw, isblk, blks] <;> exact if_same (by omega) _ _
theorem rule_26 (vs : List Int) (n : Int) (ks : List (Int × Int)) (hl : ks.length = 0) : rule vs (26, n) ks = if (cls 26).fits (vtyp vs n) (ks.map sw).reverse then (cls 26).gives (vtyp vs n) else -1 := by
  obtain rfl := len0 hl
  simp [rule, cls, Way.fits, Way.gives, ifso, sw, isblk, blks] <;> exact if_same (by omega) _ _
theorem rule_20 (vs : List Int) (n : Int) (ks : List (Int × Int)) : rule vs (20, n) ks = if (cls 20).fits (vtyp vs n) (ks.map sw).reverse then (cls 20).gives (vtyp vs n) else -1 := by
  have e : ((ks.map sw).reverse.all fun x => x.2 == 2) = alltwo (ks.map Prod.fst) := by
    rw [List.all_reverse]
    unfold alltwo
    rw [List.all_map, List.all_map]
    rfl
  have c : cls 20 = .alike 2 2 := by simp [cls]
  rw [c]
  unfold Way.fits Way.gives
  simp only [e]
  simp [rule, ifso]

/-- A node's kind by its way. -/
theorem rule_cls (vs : List Int) (x : Nd) (ks : List (Int × Int)) (hx : 0 ≤ ar x) (hl : ks.length = (ar x).toNat) :
    rule vs x ks = if (cls x.1).fits (vtyp vs x.2) (ks.map sw).reverse then (cls x.1).gives (vtyp vs x.2) else -1 := by
  obtain ⟨h1, h2⟩ := ar_tag hx
  rw [ar_asks hx] at hl
  obtain ⟨t, n⟩ := x
  simp only at h1 h2 hl ⊢
  rcases (show t = 1 ∨ t = 2 ∨ t = 3 ∨ t = 4 ∨ t = 5 ∨ t = 6 ∨ t = 7 ∨ t = 8 ∨ t = 9 ∨ t = 10 ∨ t = 11 ∨ t = 12 ∨ t = 13 ∨ t = 14 ∨ t = 15 ∨ t = 16 ∨ t = 17 ∨ t = 18 ∨ t = 19 ∨ t = 20 ∨ t = 21 ∨ t = 22 ∨ t = 23 ∨ t = 24 ∨ t = 25 ∨ t = 26 by omega) with rfl | rfl | rfl | rfl | rfl | rfl | rfl | rfl | rfl | rfl | rfl | rfl | rfl | rfl | rfl | rfl | rfl | rfl | rfl | rfl | rfl | rfl | rfl | rfl | rfl | rfl
  · exact rule_1 vs n ks (by rw [hl]; simp [asks])
  · exact rule_2 vs n ks (by rw [hl]; simp [asks])
  · exact rule_3 vs n ks (by rw [hl]; simp [asks])
  · exact rule_4 vs n ks (by rw [hl]; simp [asks])
  · exact rule_5 vs n ks (by rw [hl]; simp [asks])
  · exact rule_6 vs n ks (by rw [hl]; simp [asks])
  · exact rule_7 vs n ks (by rw [hl]; simp [asks])
  · exact rule_8 vs n ks (by rw [hl]; simp [asks])
  · exact rule_9 vs n ks (by rw [hl]; simp [asks])
  · exact rule_10 vs n ks (by rw [hl]; simp [asks])
  · exact rule_11 vs n ks (by rw [hl]; simp [asks])
  · exact rule_12 vs n ks (by rw [hl]; simp [asks])
  · exact rule_13 vs n ks (by rw [hl]; simp [asks])
  · exact rule_14 vs n ks (by rw [hl]; simp [asks])
  · exact rule_15 vs n ks (by rw [hl]; simp [asks])
  · exact rule_16 vs n ks (by rw [hl]; simp [asks])
  · exact rule_17 vs n ks (by rw [hl]; simp [asks])
  · exact rule_18 vs n ks (by rw [hl]; simp [asks])
  · exact rule_19 vs n ks (by rw [hl]; simp [asks])
  · exact rule_20 vs n ks
  · exact rule_21 vs n ks (by rw [hl]; simp [asks])
  · exact rule_22 vs n ks (by rw [hl]; simp [asks])
  · exact rule_23 vs n ks (by rw [hl]; simp [asks])
  · exact rule_24 vs n ks (by rw [hl]; simp [asks])
  · exact rule_25 vs n ks (by rw [hl]; simp [asks])
  · exact rule_26 vs n ks (by rw [hl]; simp [asks])

end Go.Proofs.Ytlecofghifjmcaa.Kinds

namespace Go.Proofs.Ytlecofghifjmcaa.Kinds
open Go.RowKit Mem _root_.Go.Proofs.Ytlecofghifjmcaa.Arena
set_option linter.unusedVariables false

theorem fold_stk {β : Type} (f : Nd → List β → β) : ∀ X : List Nd, (fold f X).length = (stk X).length
  | [] => rfl
  | x :: X => by rw [fold_cons, stk, List.length_cons, List.length_cons, List.length_drop, List.length_drop, fold_stk f X]
/-- The row behind so many nodes: the first part last. -/
def prow (vs : List Int) (X : List Nd) : List Nd := ((fold (kd vs) X).map sw).reverse
theorem prow_len (vs : List Int) (X : List Nd) : (prow vs X).length = (fold (kd vs) X).length := by unfold prow; rw [List.length_reverse, List.length_map]
theorem prow_le (vs : List Int) (X : List Nd) : (prow vs X).length ≤ X.length := by rw [prow_len, fold_stk]; exact stk_len X
/-- A node more. -/
theorem prow_cons (vs : List Int) (x : Nd) (X : List Nd) (o m : Nat) (h0 : 0 ≤ ar x) (hm : (ar x).toNat = m) (ho : (prow vs X).length = o + m) :
    prow vs (x :: X) = (prow vs X).take o ++ [(x.1, if (cls x.1).fits (vtyp vs x.2) ((prow vs X).drop o) then (cls x.1).gives (vtyp vs x.2) else -1)] := by
  rw [prow_len] at ho
  have hd : (prow vs X).drop o = (((fold (kd vs) X).take m).map sw).reverse := by
    unfold prow
    rw [List.drop_reverse, List.length_map, ho, Nat.add_sub_cancel_left, List.map_take]
  have ht : (prow vs X).take o = (((fold (kd vs) X).drop m).map sw).reverse := by
    unfold prow
    rw [List.take_reverse, List.length_map, ho, Nat.add_sub_cancel_left, List.map_drop]
  have hr := rule_cls vs x ((fold (kd vs) X).take m) h0 (by rw [List.length_take]; omega)
  rw [hd, ht, ← hr]
  unfold prow
  rw [fold_cons, hm, List.map_cons, List.reverse_cons]
  rfl
theorem prow_whole {vs : List Int} {l : List Nd} {k n : Nat} (h : scan 1 (l.drop k) = some n) : prow vs ((l.drop k).take n) = [(otag l k, okind vs l k)] := by
  have hp := fold_part (kd vs) (-1, 0) h
  have e : apart l (k : Int) = (l.drop k).take n := by
    unfold apart
    rw [if_neg (by rw [aend_some h]; omega), aend_some h, Int.toNat_natCast, show ((k : Int) + n).toNat - k = n by omega]
  unfold prow
  rw [← e, hp, val_tag h]
  rfl
theorem prow_enough {vs : List Int} {l : List Nd} {k n : Nat} (h : scan 1 (l.drop k) = some n) (t : Nat) (ht : t < n) : ∃ x, l[k + t]? = some x ∧ 0 ≤ ar x ∧ ((l.drop k).take n).drop t = x :: ((l.drop k).take n).drop (t + 1) ∧ (ar x).toNat ≤ (prow vs (((l.drop k).take n).drop (t + 1))).length := by
  obtain ⟨x, h1, h2, h3, h4⟩ := stk_enough h t ht
  exact ⟨x, h1, h2, h3, by rw [prow_len, fold_stk]; exact h4⟩
theorem cls_branches {x : Nd} (h : 0 ≤ ar x) : (cls x.1).branches → 0 < (ar x).toNat := by
  intro hb
  have h23 : x.1 = 23 ∨ x.1 = 24 := by
    obtain ⟨h1, h2⟩ := ar_tag h
    obtain ⟨t, n⟩ := x
    simp only at *
    revert hb
    unfold cls
    repeat' split
    all_goals first
      | (intro hb; omega)
      | (intro hb; exact hb.elim)
  rw [ar_asks h]
  rcases h23 with q | q <;> rw [q] <;> simp [asks]

/-! Rows that the call owns -/
theorem own_take2 {w : World} {base : Nat} {e : TypeId} {g n cap : Nat} {D : List Nd} (h : w.ownsRow base e 2 (.slice (some ⟨g, 0, none⟩) n cap) n (ncells D)) (k : Nat) (hk : k ≤ n) : w.ownsRow base e 2 (.slice (some ⟨g, 0, none⟩) k cap) k (ncells (D.take k)) := by
  obtain ⟨hl, h⟩ := h
  rw [ncells_len] at hl
  have hnt : ∀ (D : List Nd) k, ncells (D.take k) = (ncells D).take (k * 2) := by
    intro D
    induction D with
    | nil => intro k; simp [ncells]
    | cons x D ih =>
      intro k
      cases k with
      | zero => simp [ncells]
      | succ k =>
        rw [List.take_succ_cons, show ncells (x :: D.take k) = .int .i64 x.1 :: .int .i64 x.2 :: ncells (D.take k) from rfl, show ncells (x :: D) = .int .i64 x.1 :: .int .i64 x.2 :: ncells D from rfl, ih, show (k + 1) * 2 = k * 2 + 1 + 1 by omega, List.take_succ_cons, List.take_succ_cons]
  rcases h with ⟨h, -⟩ | ⟨g', cap', cur, h', hb, hg, hnc, hcm, hcs, htake⟩
  · cases h
  · simp only [Value.slice.injEq, Option.some.injEq, Addr.mk.injEq, and_true, true_and] at h'
    obtain ⟨rfl, rfl⟩ := h'
    refine ⟨by rw [ncells_len, List.length_take]; omega, .inr ⟨g, cap, cur, rfl, hb, hg, by omega, hcm, hcs, ?_⟩⟩
    rw [hnt, ← htake, List.take_take]
    congr 1
    omega
theorem own_cap2 {w : World} {base : Nat} {e : TypeId} {s g n cap : Nat} {cs : List Value} (h : w.ownsRow base e s (.slice (some ⟨g, 0, none⟩) n cap) n cs) : n ≤ cap := by
  rcases h.2 with ⟨h, -⟩ | ⟨g', cap', cur, h', hb, hg, hnc, -⟩
  · cases h
  · simp only [Value.slice.injEq, Option.some.injEq, Addr.mk.injEq, and_true, true_and] at h'
    obtain ⟨rfl, rfl⟩ := h'
    exact hnc
/-- The end of a row of parts that the call owns. -/
theorem own_tail2 {w : World} {base : Nat} {e : TypeId} {g n cap : Nat} {D : List Nd} (h : w.ownsRow base e 2 (.slice (some ⟨g, 0, none⟩) n cap) n (ncells D)) (o : Nat) : Nodes w w.heap.size (some ⟨g, o * 2, none⟩) (D.drop o) := by
  have hg : g < w.heap.size := (h.lt g rfl).2
  have hc := h.cells (g := g) rfl
  have key : ∀ j u, (ncells D)[j]? = some u → w.cell? ⟨g, j, none⟩ = some u := by
    intro j u hu
    have q := hc j u hu
    by_cases hj : j = 0
    · subst hj; simpa [Addr.add] using q
    · rw [add_off _ _ (by omega)] at q; simpa using q
  intro i x hx
  rw [List.getElem?_drop] at hx
  obtain ⟨q1, q2⟩ := ncells_get D (o + i) x hx
  refine ⟨_, rfl, hg, ?_, ?_⟩
  · rw [show ((⟨g, o * 2, none⟩ : Addr).add (i * 2)) = ⟨g, (o + i) * 2, none⟩ from by
      by_cases hi : i = 0
      · subst hi; simp [Addr.add]
      · rw [add_off _ _ (by omega)]; simp; omega]
    exact key _ _ q1
  · rw [show ((⟨g, o * 2, none⟩ : Addr).add (i * 2)) = ⟨g, (o + i) * 2, none⟩ from by
      by_cases hi : i = 0
      · subst hi; simp [Addr.add]
      · rw [add_off _ _ (by omega)]; simp; omega]
    exact key _ _ q2
theorem ncells_snoc (D : List Nd) (x : Nd) : ncells D ++ [.int .i64 x.1, .int .i64 x.2] = ncells (D ++ [x]) := by rw [ncells_append]; rfl

end Go.Proofs.Ytlecofghifjmcaa.Kinds

namespace Go.Proofs.Ytlecofghifjmcaa.Kinds
open Go.RowKit Mem _root_.Go.Proofs.Ytlecofghifjmcaa.Arena
set_option linter.unusedVariables false
attribute [local go_sem ↓] Go.wp_at_zero Go.wp_at_succ

end Go.Proofs.Ytlecofghifjmcaa.Kinds

namespace Go.Proofs.Ytlecofghifjmcaa.Kinds
open Go.RowKit Mem _root_.Go.Proofs.Ytlecofghifjmcaa.Arena
set_option linter.unusedVariables false
attribute [local go_sem ↓] Go.wp_at_zero Go.wp_at_succ

set_option maxRecDepth 100000 in
set_option maxHeartbeats 1000000 in
theorem ints_equal (A : Option Addr) (cap : Nat) (xs : List Int) (A' : Option Addr) (cap' : Nat) (ys : List Int) (w : World) (hx : IRow w w.heap.size A xs) (hy : IRow w w.heap.size A' ys) (hlen : xs.length ≤ 1000000) :
    Calls Try.prog 25 #[.slice A xs.length cap, .slice A' ys.length cap'] w fun e w' => e = .returned (.bool (decide (xs = ys))) ∧ Below w.heap.size w w' := by
  by_cases hll : xs.length = ys.length
  · have HX := Lib.hid hx
    have HY := Lib.hid hy
    clear hx hy
    obtain ⟨n, hn⟩ : ∃ n, n = xs.length := ⟨_, rfl⟩
    have hn' : ys.length = n := by omega
    rw [hn', ← hn]
    have HN := Lib.hid hn
    have HN' := Lib.hid hn'
    rw [← hn] at hlen
    clear hn hn' hll
    go_enter Try.func25, Try.ntmps25
    go_wp2
    go_loopw [5, 13] (fun _ i wr => ∃ k : Nat, k ≤ n ∧ xs.take k = ys.take k ∧ i = .int .i64 k ∧ Below w.heap.size w wr) (fun _ i _ => n - (intOf i).toNat)
    case atStart => exact ⟨0, by omega, rfl, rfl, Below.refl _ _⟩
    case round =>
      obtain ⟨k, hk, hs, rfl, hB⟩ := hrel
      by_cases hlt : k < n
      · obtain ⟨x1, hxk⟩ : ∃ x, xs[k]? = some x := ⟨_, List.getElem?_eq_getElem (show k < xs.length by rw [← HN.out]; exact hlt)⟩
        obtain ⟨y1, hyk⟩ : ∃ y, ys[k]? = some y := ⟨_, List.getElem?_eq_getElem (show k < ys.length by rw [HN'.out]; exact hlt)⟩
        obtain ⟨ad, rfl, hb, h0⟩ := (HX.out.below hB) k _ hxk
        obtain ⟨ad', rfl, hb', g0⟩ := (HY.out.below hB) k _ hyk
        by_cases htu : x1 = y1
        · have HS := Lib.hid (show xs.take (k + 1) = ys.take (k + 1) by rw [take_snoc xs k _ hxk, take_snoc ys k _ hyk, hs, htu])
          subst htu
          clear hxk hyk hs
          go_wp2
          go_quiet (fail)
          go_wp2
          go_roundw
          case rel => exact ⟨k + 1, by omega, HS.out, by go_num, belowN hB _⟩
          case measure => simp [intOf]; omega
        · have HS := Lib.hid (rows_differ hxk hyk htu)
          have e2 : (x1 == y1) = false := by simpa using htu
          clear hxk hyk hs htu
          go_wp2
          go_quiet (fail)
          go_wp2
          go_ret
          exact ⟨by rw [HS.out]; rfl, belowN hB _⟩
      · have hk9 : k = n := by omega
        subst hk9
        have HF := Lib.hid (rows_alike hs HN.out HN'.out)
        clear hs
        go_wp2
        go_ret
        exact ⟨by rw [HF.out]; rfl, hB⟩
  · have HF := Lib.hid (show decide (xs = ys) = false by
      apply decide_eq_false
      rintro rfl
      exact hll rfl)
    have hne : ((xs.length : Int) == (ys.length : Int)) = false := by rw [beq_eq_false_iff_ne]; omega
    have hne2 : ((xs.length : Int) != (ys.length : Int)) = true := by simp; omega
    go_enter Try.func25, Try.ntmps25
    go_wp2
    go_ret
    exact ⟨by rw [HF.out]; rfl, Below.refl _ _⟩


theorem vsgood_all (ps : Int) (vs : List Int) : ∀ n, vsgood ps vs n = true ↔ ∀ i, i < n → vgood ps i (vs.getD i 0) = true
  | 0 => ⟨fun _ i h => absurd h (Nat.not_lt_zero _), fun _ => rfl⟩
  | n + 1 => by
    rw [vsgood, Bool.and_eq_true, vsgood_all ps vs n]
    constructor
    · rintro ⟨h1, h2⟩ i hi
      rcases Nat.lt_or_ge i n with q | q
      · exact h1 i q
      · obtain rfl : i = n := by omega
        exact h2
    · intro h
      exact ⟨fun i hi => h i (by omega), h n (by omega)⟩
theorem vsgood_tests (q : Nat) (vs : List Int) (hq : q ≤ vs.length) : vsgood (q : Int) vs vs.length = (!(vs.any odd) && !((vs.take q).any nonum)) := by
  rw [Bool.eq_iff_iff, vsgood_all, Bool.and_eq_true, Bool.not_eq_true', Bool.not_eq_true', List.any_eq_false, List.any_eq_false]
  constructor
  · intro h
    refine ⟨fun x hx => ?_, fun x hx => ?_⟩
    · obtain ⟨i, hi, rfl⟩ := List.getElem_of_mem hx
      have := h i hi
      rw [List.getD_eq_getElem?_getD, List.getElem?_eq_getElem hi] at this
      unfold vgood at this
      rw [decide_eq_true_eq] at this
      simp only [Option.getD_some] at this
      unfold odd
      rw [decide_eq_true_eq]; omega
    · obtain ⟨i, hi, rfl⟩ := List.getElem_of_mem hx
      rw [List.length_take] at hi
      have := h i (by omega)
      rw [List.getD_eq_getElem?_getD, List.getElem?_eq_getElem (by omega)] at this
      unfold vgood at this
      rw [decide_eq_true_eq] at this
      simp only [Option.getD_some] at this
      rw [List.getElem_take]
      unfold nonum
      have := this.2.2 (by omega)
      simp [this]
  · rintro ⟨h1, h2⟩ i hi
    rw [List.getD_eq_getElem?_getD, List.getElem?_eq_getElem hi, Option.getD_some]
    have a1 := h1 vs[i] (List.getElem_mem hi)
    unfold odd at a1
    rw [decide_eq_true_eq] at a1
    unfold vgood
    rw [decide_eq_true_eq]
    refine ⟨by omega, by omega, fun hlt => ?_⟩
    have hm : vs[i] ∈ vs.take q := by
      rw [List.mem_take_iff_getElem]
      exact ⟨i, by omega, rfl⟩
    have a2 := h2 _ hm
    unfold nonum at a2
    simpa using a2

end Go.Proofs.Ytlecofghifjmcaa.Kinds

namespace Go.Proofs.Ytlecofghifjmcaa.Kinds
open Go.RowKit Mem _root_.Go.Proofs.Ytlecofghifjmcaa.Arena
set_option linter.unusedVariables false
attribute [local go_sem ↓] Go.wp_at_zero Go.wp_at_succ

end Go.Proofs.Ytlecofghifjmcaa.Kinds
