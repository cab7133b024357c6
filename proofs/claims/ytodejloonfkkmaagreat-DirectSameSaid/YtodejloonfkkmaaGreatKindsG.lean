/-
  Plain facts on kinds: a node's kind, by its tag, its number, variables, and its kids' kinds and tags. No program is met here.
  Programs in memory; the reference of kinds, walked: its small functions.
  The reference of kinds, walked: blocks, variables.
  The reference of kinds, walked: a node's kind, a theorem a tag.
  The reference of kinds, walked: a node's kind, by recursion.
  The reference of kinds, walked: variables, a program, two programs.
  The reference of kinds, walked: a program, two programs.
  Plain facts on typed programs: what is below, what stands instead, a variable more. No program is met here.
  Arguments that are programs by value: what they hold.
  The laws of layer 9, walked on what the package's functions come to: the document's examples.
  The laws of layer 9, walked on what the package's functions come to: a node's kind is just what the document says.
-/
import Derived.Test.YtodejloonfkkmaaGreatArenaH
import Derived.Deep.QuietTactic
namespace Go.Proofs.YtodejloonfkkmaaGreat.Kinds
open _root_.Go.Proofs.YtodejloonfkkmaaGreat.Arena

/-- A variable's type; -1: there is none. -/
def vtyp (vs : List Int) (v : Int) : Int := if v < 0 then -1 else vs.getD v.toNat (-1)
def asz (t : Int) : Int := if t < 2 ∨ 9 < t then 0 else t - 1
/-- If so, a kind; else -1. -/
def ifso (p : Prop) [Decidable p] (k : Int) : Int := if p then k else -1
theorem ifso_ge {p : Prop} [Decidable p] {k : Int} (h : 0 ≤ ifso p k) : p := by
  unfold ifso at h; split at h
  · assumption
  · omega
/-- Are the kids from the second one on blocks? -/
def blks (ks : List (Int × Int)) : Bool := (ks.drop 1).all fun y => decide (y.2 = 20)
/-- Are all of kind 2? -/
def alltwo (q : List Int) : Bool := q.all fun k => decide (k = 2)
/-- A node's kind, of its kids' kinds and tags. -/
def rule (vs : List Int) (x : Nd) (ks : List (Int × Int)) : Int :=
  if x.1 = 1 then 0 else if x.1 = 2 then 1
  else if x.1 = 3 then ifso (vtyp vs x.2 = 0 ∨ vtyp vs x.2 = 1) (vtyp vs x.2)
  else if x.1 = 4 then ifso (0 < asz (vtyp vs x.2) ∧ ks.map Prod.fst = [0]) 0
  else if x.1 = 5 then ifso (ks.map Prod.fst = [0]) 0
  else if x.1 = 6 then ifso (ks.map Prod.fst = [1]) 1
  else if 7 ≤ x.1 ∧ x.1 ≤ 11 then ifso (ks.map Prod.fst = [0, 0]) 0
  else if 12 ≤ x.1 ∧ x.1 ≤ 17 then ifso (ks.map Prod.fst = [0, 0]) 1
  else if x.1 = 18 ∨ x.1 = 19 then ifso (ks.map Prod.fst = [1, 1]) 1
  else if x.1 = 20 then ifso (alltwo (ks.map Prod.fst) = true) 2
  else if x.1 = 21 then ifso ((vtyp vs x.2 = 0 ∨ vtyp vs x.2 = 1) ∧ ks.map Prod.fst = [vtyp vs x.2]) 2
  else if x.1 = 22 then ifso (0 < asz (vtyp vs x.2) ∧ ks.map Prod.fst = [0, 0]) 2
  else if x.1 = 23 then ifso (ks.map Prod.fst = [1, 2, 2] ∧ blks ks = true) 2
  else if x.1 = 24 then ifso (ks.map Prod.fst = [1, 2] ∧ blks ks = true) 2
  else if x.1 = 25 then ifso (ks.map Prod.fst = [0]) 2
  else 2
/-- A node's kind and tag. -/
def kd (vs : List Int) (x : Nd) (ks : List (Int × Int)) : Int × Int := (rule vs x ks, x.1)
def okind (vs : List Int) (l : List Nd) (a : Int) : Int := (val (kd vs) (-1, 0) l a).1
def otag (l : List Nd) (a : Int) : Int := (l.getD a.toNat (0, 0)).1
theorem okind_bad {vs : List Int} {l : List Nd} {a : Int} (h : aend l a < 0) : okind vs l a = -1 := by unfold okind; rw [val_bad _ _ h]
theorem val_tag {vs : List Int} {l : List Nd} {k n : Nat} (h : scan 1 (l.drop k) = some n) : val (kd vs) (-1, 0) l k = (okind vs l k, otag l k) := by
  obtain ⟨x, hx, -, -, hv⟩ := val_kids (kd vs) (-1, 0) h
  have ht : otag l k = x.1 := by
    unfold otag
    rw [Int.toNat_natCast, List.getD_eq_getElem?_getD, hx]
    rfl
  have h2 : (val (kd vs) (-1, 0) l k).2 = x.1 := by rw [hv]; rfl
  unfold okind
  rw [ht, ← h2]
/-- A node's kind, of its kids'. -/
theorem okind_kids {vs : List Int} {l : List Nd} {k n : Nat} (h : scan 1 (l.drop k) = some n) : ∃ x, l[k]? = some x ∧ 0 ≤ ar x ∧ (akids l k).length = (ar x).toNat ∧ okind vs l k = rule vs x ((akids l k).map fun q => (okind vs l q, otag l q)) := by
  obtain ⟨x, hx, h0, hl, hv⟩ := val_kids (kd vs) (-1, 0) h
  refine ⟨x, hx, h0, hl, ?_⟩
  have hm : (akids l k).map (val (kd vs) (-1, 0) l) = (akids l k).map fun q => (okind vs l q, otag l q) := by
    apply List.map_congr_left
    intro q hq
    have h2 := (kids_in h q hq).2.2
    rcases aend_cases l q with h' | ⟨k', n', rfl, hs', -⟩
    · omega
    · exact val_tag hs'
  unfold okind
  rw [hv, hm]
  rfl
/-- What is of some kind has kids of some kind. -/
theorem rule_good {vs : List Int} (x : Nd) (ks : List (Int × Int)) (hx : 0 ≤ ar x) (hl : ks.length = (ar x).toNat) (h : 0 ≤ rule vs x ks) : ∀ y ∈ ks, 0 ≤ y.1 := by
  have key : ∀ L : List Int, ks.map Prod.fst = L → (∀ z ∈ L, 0 ≤ z) → ∀ y ∈ ks, 0 ≤ y.1 := by
    intro L hL hz y hy
    exact hz _ (by rw [← hL]; exact List.mem_map.2 ⟨y, hy, rfl⟩)
  have none : (ar x).toNat = 0 → ∀ y ∈ ks, 0 ≤ y.1 := by
    intro h0 y hy
    rw [List.length_eq_zero_iff.1 (hl.trans h0)] at hy; cases hy
  obtain ⟨t, n⟩ := x
  unfold rule at h
  simp only at h
  by_cases h1 : t = 1
  · subst h1; exact none (by simp [ar])
  rw [if_neg h1] at h
  by_cases h2 : t = 2
  · subst h2; exact none (by simp [ar, asks]; split <;> omega)
  rw [if_neg h2] at h
  by_cases h3 : t = 3
  · subst h3; exact none (by simp [ar, asks]; split <;> omega)
  rw [if_neg h3] at h
  by_cases h4 : t = 4
  · rw [if_pos h4] at h; exact key _ (ifso_ge h).2 (by simp)
  rw [if_neg h4] at h
  by_cases h5 : t = 5
  · rw [if_pos h5] at h; exact key _ (ifso_ge h) (by simp)
  rw [if_neg h5] at h
  by_cases h6 : t = 6
  · rw [if_pos h6] at h; exact key _ (ifso_ge h) (by simp)
  rw [if_neg h6] at h
  by_cases h7 : 7 ≤ t ∧ t ≤ 11
  · rw [if_pos h7] at h; exact key _ (ifso_ge h) (by simp)
  rw [if_neg h7] at h
  by_cases h12 : 12 ≤ t ∧ t ≤ 17
  · rw [if_pos h12] at h; exact key _ (ifso_ge h) (by simp)
  rw [if_neg h12] at h
  by_cases h18 : t = 18 ∨ t = 19
  · rw [if_pos h18] at h; exact key _ (ifso_ge h) (by simp)
  rw [if_neg h18] at h
  by_cases h20 : t = 20
  · rw [if_pos h20] at h
    have := ifso_ge h
    intro y hy
    unfold alltwo at this
    rw [List.all_eq_true] at this
    have := this y.1 (List.mem_map.2 ⟨y, hy, rfl⟩)
    simp at this
    omega
  rw [if_neg h20] at h
  by_cases h21 : t = 21
  · rw [if_pos h21] at h
    obtain ⟨q1, q2⟩ := ifso_ge h
    exact key _ q2 (by intro z hz; rw [List.mem_singleton] at hz; omega)
  rw [if_neg h21] at h
  by_cases h22 : t = 22
  · rw [if_pos h22] at h; exact key _ (ifso_ge h).2 (by simp)
  rw [if_neg h22] at h
  by_cases h23 : t = 23
  · rw [if_pos h23] at h; exact key _ (ifso_ge h).1 (by simp)
  rw [if_neg h23] at h
  by_cases h24 : t = 24
  · rw [if_pos h24] at h; exact key _ (ifso_ge h).1 (by simp)
  rw [if_neg h24] at h
  by_cases h25 : t = 25
  · rw [if_pos h25] at h; exact key _ (ifso_ge h) (by simp)
  by_cases h26 : t = 26
  · subst h26; exact none (by simp [ar, asks]; split <;> omega)
  · exfalso
    unfold ar asks at hx
    rw [if_neg h1, if_neg h2, if_neg h3, if_neg (by omega), if_neg h22, if_neg (by omega), if_neg (by omega), if_neg h20, if_neg h23, if_neg h26] at hx
    simp only at hx
    split at hx <;> omega

/-- WHAT A TYPED PROGRAM HAS BELOW A NODE IS TYPED, TOO. -/
theorem okind_below {vs : List Int} {l : List Nd} (hw : scan 1 l = some l.length) (h0 : 0 ≤ okind vs l 0) {k n : Nat} (h : scan 1 (l.drop k) = some n) : 0 ≤ okind vs l k :=
  val_good (kd vs) (-1, 0) (fun y => 0 ≤ y.1) (fun x ks h1 h2 h3 => rule_good x ks h1 h2 h3) hw h0 h
theorem asz_pos {t : Int} (h : 0 < asz t) : 0 ≤ t := by unfold asz at h; split at h <;> omega
end Go.Proofs.YtodejloonfkkmaaGreat.Kinds

namespace Go.Proofs.YtodejloonfkkmaaGreat.Kinds
open Go.RowKit Mem _root_.Go.Proofs.YtodejloonfkkmaaGreat.Arena
set_option linter.unusedVariables false
attribute [local go_sem ↓] Go.wp_at_zero Go.wp_at_succ

/-- A program: how many parameters, its variables' types, its body, and where these lie. -/
structure Prg where
  ps : Int
  A : Option Addr
  c : Nat
  vs : List Int
  B : Option Addr
  e : Nat
  xs : List Nd
/-- It lies in memory, and is not large. -/
structure Prg.Ok (p : Prg) (w : World) : Prop where
  vars : IRow w w.heap.size p.A p.vs
  body : Nodes w w.heap.size p.B p.xs
  lv : p.vs.length ≤ 1000000
  lx : p.xs.length ≤ 1000000
  cv : p.vs.length ≤ p.c
  ce : p.xs.length ≤ p.e
  nv : p.A = none → p.c = 0
  nb : p.B = none → p.e = 0
theorem Prg.Ok.at {p : Prg} {w w' : World} (h : p.Ok w) (hb : Below w.heap.size w w') : p.Ok w' := ⟨h.vars.at hb, h.body.at hb, h.lv, h.lx, h.cv, h.ce, h.nv, h.nb⟩
theorem Prg.Ok.drew {p : Prg} {w : World} (h : p.Ok w) : p.Ok w.drew := ⟨h.vars, h.body, h.lv, h.lx, h.cv, h.ce, h.nv, h.nb⟩

end Go.Proofs.YtodejloonfkkmaaGreat.Kinds

namespace Go.Proofs.YtodejloonfkkmaaGreat.Kinds
open Go.RowKit Mem _root_.Go.Proofs.YtodejloonfkkmaaGreat.Arena
set_option linter.unusedVariables false
attribute [local go_sem ↓] Go.wp_at_zero Go.wp_at_succ

end Go.Proofs.YtodejloonfkkmaaGreat.Kinds

namespace Go.Proofs.YtodejloonfkkmaaGreat.Kinds
open Go.RowKit Mem _root_.Go.Proofs.YtodejloonfkkmaaGreat.Arena
set_option linter.unusedVariables false
attribute [local go_sem ↓] Go.wp_at_zero Go.wp_at_succ

theorem IRow.one {w : World} {B : Nat} (g : Nat) (ws : List Int) (h : Blk w g 3 (icells ws).toArray) (hB : g < B) : IRow w B (some ⟨g, 0, none⟩) ws := by
  intro i x hx
  refine ⟨_, rfl, hB, ?_⟩
  have : (⟨g, 0, none⟩ : Addr).add i = ⟨g, i, none⟩ := by unfold Addr.add; split <;> simp_all
  rw [this, h.cell]; simp [icells, hx]

end Go.Proofs.YtodejloonfkkmaaGreat.Kinds

namespace Go.Proofs.YtodejloonfkkmaaGreat.Kinds
open Go.RowKit Mem _root_.Go.Proofs.YtodejloonfkkmaaGreat.Arena
set_option linter.unusedVariables false

end Go.Proofs.YtodejloonfkkmaaGreat.Kinds

namespace Go.Proofs.YtodejloonfkkmaaGreat.Kinds
open Go.RowKit Mem _root_.Go.Proofs.YtodejloonfkkmaaGreat.Arena
set_option linter.unusedVariables false

/-- May a variable be? -/
def vgood (ps : Int) (i : Nat) (x : Int) : Bool := decide (0 ≤ x ∧ x ≤ 9 ∧ ((i : Int) < ps → x = 0))
/-- May the first so many be? -/
def vsgood (ps : Int) (vs : List Int) : Nat → Bool
  | 0 => true
  | k + 1 => vsgood ps vs k && vgood ps k (vs.getD k 0)
def avars (ps : Int) (vs : List Int) : Int := if ps < 0 ∨ (vs.length : Int) < ps ∨ 12 < vs.length then 14 else if vsgood ps vs vs.length = true then 0 else 14
theorem vsgood_le {ps : Int} {vs : List Int} {k n : Nat} (h : vsgood ps vs n = true) (hk : k ≤ n) : vsgood ps vs k = true := by
  induction n with
  | zero => obtain rfl : k = 0 := by omega
            exact h
  | succ n ih =>
    rw [vsgood, Bool.and_eq_true] at h
    rcases Nat.eq_or_lt_of_le hk with rfl | q
    · rw [vsgood, h.1, h.2]; rfl
    · exact ih h.1 (by omega)
theorem vsgood_not {ps : Int} {vs : List Int} {k n : Nat} (hk : k < n) (h : vgood ps k (vs.getD k 0) = false) : vsgood ps vs n = false := by
  cases hb : vsgood ps vs n with
  | false => rfl
  | true =>
    have := vsgood_le hb (show k + 1 ≤ n by omega)
    rw [vsgood, h, Bool.and_false] at this
    exact this.symm
/-- What is wrong with a program. -/
def pcheck (ps : Int) (vs : List Int) (xs : List Nd) : Int := if acheck xs ≠ 0 then acheck xs else if avars ps vs ≠ 0 then avars ps vs else if otag xs 0 ≠ 20 ∨ okind vs xs 0 ≠ 2 then 15 else 0

set_option maxRecDepth 100000 in
theorem ref_Few_any (p : Prg) (w : World) : Calls Tryz.prog 14 #[.agg #[.int .i64 p.ps, .slice p.A p.vs.length p.c, .slice p.B p.xs.length p.e]] w fun e w' => e = .returned (.bool (decide (p.xs.length ≤ 60) && decide (p.vs.length ≤ 20))) ∧ Below w.heap.size w w' := by
  have hB0 : Below w.heap.size w (w.alloc (.cells #[.int .i64 p.ps, .slice p.A p.vs.length p.c, .slice p.B p.xs.length p.e] 25)) := (Below.refl _ _).alloc (Nat.le_refl _) _
  by_cases h1 : p.xs.length ≤ 60
  · have e1 : (p.xs.length : Int) ≤ 60 := by omega
    rw [decide_eq_true h1, Bool.true_and]
    by_cases h2 : p.vs.length ≤ 20
    · have e2 : (p.vs.length : Int) ≤ 20 := by omega
      rw [decide_eq_true h2]
      go_enter Tryz.func14, Tryz.ntmps14
      go_wp2
      go_ret
      exact ⟨rfl, hB0⟩
    · have e2 : ¬ (p.vs.length : Int) ≤ 20 := by omega
      rw [decide_eq_false h2]
      go_enter Tryz.func14, Tryz.ntmps14
      go_wp2
      go_ret
      exact ⟨rfl, hB0⟩
  · have e1 : ¬ (p.xs.length : Int) ≤ 60 := by omega
    rw [decide_eq_false h1, Bool.false_and]
    go_enter Tryz.func14, Tryz.ntmps14
    go_wp2
    go_ret
    exact ⟨rfl, hB0⟩

end Go.Proofs.YtodejloonfkkmaaGreat.Kinds

namespace Go.Proofs.YtodejloonfkkmaaGreat.Kinds
open Go.RowKit Mem _root_.Go.Proofs.YtodejloonfkkmaaGreat.Arena
set_option linter.unusedVariables false

end Go.Proofs.YtodejloonfkkmaaGreat.Kinds

namespace Go.Proofs.YtodejloonfkkmaaGreat.Kinds
open _root_.Go.Proofs.YtodejloonfkkmaaGreat.Arena

end Go.Proofs.YtodejloonfkkmaaGreat.Kinds

namespace Go.Proofs.YtodejloonfkkmaaGreat.Kinds
open Go.RowKit Mem Go.ChangeShapes Go.WideShapes Go.Deep Go.Joins _root_.Go.Proofs.YtodejloonfkkmaaGreat.Arena

section
variable {H : Type} {enc : TypeId × Value → H} {W : World} {spare : Nat → Bool} {held : Bool}

set_option maxRecDepth 100000 in
/-- A slice of nodes, out of its cell. -/
theorem nodes_of {n : Nat} {cs : List Value} {x : DataW H × List MemPlace} (hf : DataW.trod enc Tryz.prog W 0 spare held n 23 cs = some x) :
    ∃ (A : Option Addr) (cap : Nat) (xs : List Nd), cs = [.slice A xs.length cap] ∧ xs.length ≤ maxLen ∧ xs.length ≤ cap ∧ (A = none → cap = 0) ∧ Nodes W W.heap.size A xs := by
  have hC : Tryz.prog.cellsOf 47 = 2 := by kernel_rfl
  rcases open_slice Tryz.underlying23 hf with ⟨rfl, -⟩ | ⟨a, len, cap, m, n, D, Pl, rfl, -, hlc, hcm, hm, hx, hi⟩
  · exact ⟨none, 0, [], rfl, by simp, by simp, fun _ => rfl, fun i x h => by simp at h⟩
  · rw [hC] at hi
    have hlm : len ≤ m := by rw [hm]; split <;> omega
    have each : ∀ i, i < len → ∃ y : Nd, (a.add (i * 2)).block = a.block ∧ W.cell? (a.add (i * 2)) = some (.int .i64 y.1) ∧ W.cell? ⟨(a.add (i * 2)).block, (a.add (i * 2)).off + 1, none⟩ = some (.int .i64 y.2) := by
      intro i hil
      obtain ⟨cs', hc, ht⟩ := hi i (by omega)
      obtain ⟨y, hy⟩ := node_of ht
      have hat := cells_atN hc
      subst hy
      refine ⟨y, add_blockN _ _, ?_, ?_⟩
      · exact hat 0 _ rfl
      · have := hat 1 _ rfl; rwa [add_off _ _ (by omega)] at this
    obtain ⟨F, hF⟩ := choose_lt each
    refine ⟨some a, cap, (List.range len).map F, by simp, by simp; omega, by simpa using hlc, (fun e => by cases e), fun i x hxi => ?_⟩
    obtain ⟨hil, rfl⟩ : i < len ∧ F i = x := by
      rw [List.getElem?_map] at hxi
      have h1 : (List.range len)[i]? = some i := by
        rcases Nat.lt_or_ge i len with h | h
        · rw [List.getElem?_range h]
        · rw [List.getElem?_eq_none (by simpa using h)] at hxi; cases hxi
      rw [h1] at hxi
      have h2 := (List.getElem?_eq_some_iff.1 h1).1
      exact ⟨by simpa using h2, by simpa using hxi⟩
    obtain ⟨hb, q0, q1⟩ := hF i hil
    exact ⟨a, rfl, by have := World.block_lt_of_cell? W _ q0; rw [hb] at this; exact this, q0, q1⟩

set_option maxRecDepth 100000 in
/-- A slice of numbers, out of its cell. -/
theorem ints_of {n : Nat} {cs : List Value} {x : DataW H × List MemPlace} (hf : DataW.trod enc Tryz.prog W 0 spare held n 22 cs = some x) :
    ∃ (A : Option Addr) (cap : Nat) (ks : List Int), cs = [.slice A ks.length cap] ∧ ks.length ≤ maxLen ∧ ks.length ≤ cap ∧ (A = none → cap = 0) ∧ IRow W W.heap.size A ks := by
  have hC : Tryz.prog.cellsOf 3 = 1 := by kernel_rfl
  rcases open_slice1 Tryz.underlying22 hC hf with ⟨rfl, -⟩ | ⟨a, len, cap, m, n, V, D, Pl, rfl, -, hlc, hcm, hm, hx, hi⟩
  · exact ⟨none, 0, [], rfl, by simp, by simp, fun _ => rfl, fun i x h => by simp at h⟩
  · have hlm : len ≤ m := by rw [hm]; split <;> omega
    have each : ∀ i, i < len → ∃ y : Int, W.cell? (a.add i) = some (.int .i64 y) := by
      intro i hil
      obtain ⟨hc, ht⟩ := hi i (by omega)
      obtain ⟨k, e0, -, -⟩ := DataW.trod_int Tryz.underlying3 ht
      simp at e0
      exact ⟨k, by rw [hc, e0]⟩
    obtain ⟨F, hF⟩ := choose_lt each
    refine ⟨some a, cap, (List.range len).map F, by simp, by simp; omega, by simpa using hlc, (fun e => by cases e), fun i x hxi => ?_⟩
    obtain ⟨hil, rfl⟩ : i < len ∧ F i = x := by
      rw [List.getElem?_map] at hxi
      have h1 : (List.range len)[i]? = some i := by
        rcases Nat.lt_or_ge i len with h | h
        · rw [List.getElem?_range h]
        · rw [List.getElem?_eq_none (by simpa using h)] at hxi; cases hxi
      rw [h1] at hxi
      have h2 := (List.getElem?_eq_some_iff.1 h1).1
      exact ⟨by simpa using h2, by simpa using hxi⟩
    have q0 := hF i hil
    exact ⟨a, rfl, by have := World.block_lt_of_cell? W _ q0; rw [add_blockN] at this; exact this, q0⟩

/-- A program that came in: it lies in memory; how large it is is not known. -/
structure Prg.In (p : Prg) (w : World) : Prop where
  vars : IRow w w.heap.size p.A p.vs
  body : Nodes w w.heap.size p.B p.xs
  lv : p.vs.length ≤ maxLen
  lx : p.xs.length ≤ maxLen
  cv : p.vs.length ≤ p.c
  ce : p.xs.length ≤ p.e
  nv : p.A = none → p.c = 0
  nb : p.B = none → p.e = 0
theorem Prg.In.at {p : Prg} {w w' : World} (h : p.In w) (hb : Below w.heap.size w w') : p.In w' := ⟨h.vars.at hb, h.body.at hb, h.lv, h.lx, h.cv, h.ce, h.nv, h.nb⟩
theorem Prg.In.ok {p : Prg} {w : World} (h : p.In w) (h1 : p.vs.length ≤ 1000000) (h2 : p.xs.length ≤ 1000000) : p.Ok w := ⟨h.vars, h.body, h1, h2, h.cv, h.ce, h.nv, h.nb⟩

set_option maxRecDepth 100000 in
/-- One program by value. -/
theorem open_program {b0 : Nat} {v : Value} {d : DataW H} {q : List MemPlace} (hv : Value.okWide Tryz.prog W .any b0 25 v) (h : DataW.Trod enc Tryz.prog W 0 spare held 25 v d q) :
    ∃ p : Prg, v = .agg #[.int .i64 p.ps, .slice p.A p.vs.length p.c, .slice p.B p.xs.length p.e] ∧ p.In W := by
  obtain ⟨cs, rfl, -⟩ := okWide_struct Tryz.underlying25 hv
  obtain ⟨fuel, hf⟩ := h
  have hC : Tryz.prog.cellsOf 25 = 3 := by kernel_rfl
  have hC0 : Tryz.prog.cellsOf 3 = 1 := by kernel_rfl
  have hC1 : Tryz.prog.cellsOf 22 = 1 := by kernel_rfl
  have hC2 : Tryz.prog.cellsOf 23 = 1 := by kernel_rfl
  obtain ⟨l⟩ := cs
  obtain ⟨y0, y1, y2, m, hx, hl, h0, h1, h2⟩ := trod_struct3 Tryz.underlying25 hf
  rw [hC] at hl
  simp only [Value.cells] at hl h0 h1 h2
  match l, hl with
  | [c0, c1, c2], _ =>
    obtain ⟨k, e0, -, -⟩ := DataW.trod_int Tryz.underlying3 h0
    obtain ⟨A, c, vs, e1, r1, r2, r3, r4⟩ := ints_of h1
    obtain ⟨B, e, xs, e2, s1, s2, s3, s4⟩ := nodes_of h2
    simp only [hC0, hC1, hC2] at e0 e1 e2
    simp at e0 e1 e2
    exact ⟨⟨k, A, c, vs, B, e, xs⟩, by simp [e0, e1, e2], ⟨r4, s4, r1, s1, r2, s2, r3, s3⟩⟩

end
end Go.Proofs.YtodejloonfkkmaaGreat.Kinds

namespace Go.Proofs.YtodejloonfkkmaaGreat.Kinds
open Go.RowKit Mem _root_.Go.Proofs.YtodejloonfkkmaaGreat.Arena
set_option linter.unusedVariables false
attribute [local go_sem ↓] Go.wp_at_zero Go.wp_at_succ

end Go.Proofs.YtodejloonfkkmaaGreat.Kinds

namespace Go.Proofs.YtodejloonfkkmaaGreat.Kinds
open Go.RowKit Mem _root_.Go.Proofs.YtodejloonfkkmaaGreat.Arena
set_option linter.unusedVariables false
attribute [local go_sem ↓] Go.wp_at_zero Go.wp_at_succ

end Go.Proofs.YtodejloonfkkmaaGreat.Kinds
