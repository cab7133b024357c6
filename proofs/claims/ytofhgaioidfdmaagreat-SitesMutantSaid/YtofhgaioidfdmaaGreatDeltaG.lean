/-
  Plain facts on programs that are changed in one place: what is told by kinds, and by whether a node is a block, stays. No program is met here.
  Plain facts on deltas: what is changed, and that a typed program stays typed. No program is met here.
  Plain facts on deltas as bytes: what is put is read back, whatever stands behind it; a delta has one form. No program is met here.
  Plain facts on deltas: one order; what is changed stands in one place; a tag or a number that is changed is changed back. No program is met here.
  What the functions of deltas come to.
  Arguments that are deltas by value: what they hold.
-/
import Derived.Test.YtofhgaioidfdmaaGreatKindsG
import Derived.Test.YtofhgaioidfdmaaGreatCodeG
import Derived.Test.YtofhgaioidfdmaaGreatPathG
namespace Go.Proofs.YtofhgaioidfdmaaGreat.Delta
open _root_.Go.Proofs.YtofhgaioidfdmaaGreat.Arena _root_.Go.Proofs.YtofhgaioidfdmaaGreat.Kinds

end Go.Proofs.YtofhgaioidfdmaaGreat.Delta

namespace Go.Proofs.YtofhgaioidfdmaaGreat.Delta
open _root_.Go.Proofs.YtofhgaioidfdmaaGreat.Arena _root_.Go.Proofs.YtofhgaioidfdmaaGreat.Kinds

/-- Is a node, and the number, as an operator asks? -/
def dmay (t op n : Int) : Bool :=
  if op = 1 then decide (7 ≤ t ∧ t ≤ 11) && decide (7 ≤ n ∧ n ≤ 11)
  else if op = 2 then decide (12 ≤ t ∧ t ≤ 17) && decide (12 ≤ n ∧ n ≤ 17)
  else if op = 3 then decide (18 ≤ t ∧ t ≤ 19) && decide (18 ≤ n ∧ n ≤ 19)
  else if op = 4 then decide (t = 1) || (decide (t = 2) && decide (0 ≤ n ∧ n ≤ 1))
  else if op = 5 then decide (t = 21 ∨ t = 22 ∨ t = 23 ∨ t = 24 ∨ t = 25) && decide (n = 0)
  else if op = 6 then decide (t = 23 ∨ t = 24) && decide (n = 0)
  else if op = 7 then decide (t = 25) else false
/-- With others instead of what stands between two places. -/
def swap (l : List Nd) (a b : Nat) (m : List Nd) : List Nd := l.take a ++ m ++ l.drop b
/-- What a body becomes, of a delta that may be, at a place. -/
def dch (l : List Nd) (a : Nat) (op n : Int) : List Nd :=
  if op = 1 ∨ op = 2 ∨ op = 3 then swap l a (a + 1) [(n, (l.getD a (0, 0)).2)]
  else if op = 4 then swap l a (a + 1) [((l.getD a (0, 0)).1, n)]
  else if op = 5 then swap l a (aend l a).toNat [(26, 0)]
  else if op = 6 then swap l (a + 1) (a + 1) [(6, 0)]
  else swap l (a + 1) (aend l ((a + 1 : Nat) : Int)).toNat [(1, n)]

theorem getD_at {l : List Nd} {a : Nat} {x : Nd} (h : l[a]? = some x) : l.getD a (0, 0) = x := by
  rw [List.getD_eq_getElem?_getD, h]; rfl
end Go.Proofs.YtofhgaioidfdmaaGreat.Delta

namespace Go.Proofs.YtofhgaioidfdmaaGreat.Delta
open Go.RowKit Leb Mem Wire Zig _root_.Go.Proofs.YtofhgaioidfdmaaGreat.Arena _root_.Go.Proofs.YtofhgaioidfdmaaGreat.Kinds _root_.Go.Proofs.YtofhgaioidfdmaaGreat.Code

/-- May a delta be put? -/
structure Right (p : List Int) (op : Int) : Prop where
  len : p.length ≤ 30
  rng : ∀ k ∈ p, 0 ≤ k ∧ k ≤ 199
  op0 : 1 ≤ op
  op1 : op ≤ 7
def pathb (p : List Int) : List UInt8 := p.flatMap fun k => lput k.toNat
def dput (p : List Int) (op n : Int) : List UInt8 := lput p.length ++ (pathb p ++ (tb op :: lput (zig n).toNat))

/-- The first i numbers of a path, by one who asks for a number. -/
def rp (g : Int × Int → (Int × Int) × Int) (s : Int × Int) : Nat → List Int × (Int × Int)
  | 0 => ([], s)
  | i + 1 => ((rp g s i).1 ++ [(g (rp g s i).2).2], (g (rp g s i).2).1)
/-- One who asks for numbers up to 199, and is told them. -/
def Asks (S : ByteArray) (g : Int × Int → (Int × Int) × Int) : Prop := ∀ (x y : List UInt8) (n : Nat), n ≤ 199 → S.data.toList = x ++ (lput n ++ y) → g ((x.length : Int), 0) = (((x.length : Int) + (lput n).length, 0), (n : Int))
/-- Reading a delta, as well as can be: where the reader is behind the count, behind the path, behind the operator, and behind the number. -/
def d1 (S : ByteArray) : (Int × Int) × Int := Code.ask S (0, 0) 2
def d2 (S : ByteArray) : List Int × (Int × Int) := rp (fun s => Code.ask S s 2) (d1 S).1 (min (d1 S).2.toNat 31)
def d3 (S : ByteArray) : (Int × Int) × Int := Code.ask S (d2 S).2 0
def d4 (S : ByteArray) : (Int × Int) × Int := Code.ask S (d3 S).1 3
/-- Are these bytes a delta's? -/
def dfits (S : ByteArray) : Prop := Right (d2 S).1 (d3 S).2 ∧ dput (d2 S).1 (d3 S).2 (d4 S).2 = S.data.toList
/-- Reading as a package may: no more than 30 numbers, each no more than 199. -/
def e1 (S : ByteArray) : (Int × Int) × Int := askP S (0, 0) 2 30
def e2 (S : ByteArray) : List Int × (Int × Int) := rp (fun s => askP S s 2 199) (e1 S).1 (e1 S).2.toNat
def e3 (S : ByteArray) : (Int × Int) × Int := askP S (e2 S).2 0 0
def e4 (S : ByteArray) : (Int × Int) × Int := askP S (e3 S).1 3 0
end Go.Proofs.YtofhgaioidfdmaaGreat.Delta

namespace Go.Proofs.YtofhgaioidfdmaaGreat.Delta
open _root_.Go.Proofs.YtofhgaioidfdmaaGreat.Arena _root_.Go.Proofs.YtofhgaioidfdmaaGreat.Path

def three (a b : Int) : Int := if a < b then -1 else if b < a then 1 else 0
/-- How do two deltas stand? -/
def dcmp (p : List Int) (op n : Int) (p' : List Int) (op' n' : Int) : Int := if cmp p p' ≠ 0 then cmp p p' else if op ≠ op' then three op op' else three n n'
theorem three_turn (a b : Int) : three b a = -three a b := by
  unfold three
  repeat' split
  all_goals omega
theorem three_zero {a b : Int} : three a b = 0 ↔ a = b := by
  unfold three
  constructor
  · intro h
    repeat' split at h
    all_goals omega
  · rintro rfl
    simp
theorem dcmp_turn (p : List Int) (op n : Int) (p' : List Int) (op' n' : Int) : dcmp p' op' n' p op n = -dcmp p op n p' op' n' := by
  unfold dcmp
  rw [cmp_turn p p']
  by_cases h : cmp p p' = 0
  · rw [h, if_neg (show ¬ (-(0 : Int) ≠ 0) by simp), if_neg (show ¬ ((0 : Int) ≠ 0) by simp)]
    by_cases k : op = op'
    · rw [if_neg (by omega), if_neg (by omega)]; exact three_turn _ _
    · rw [if_pos (by omega), if_pos (by omega)]; exact three_turn _ _
  · rw [if_pos (by omega), if_pos (by omega)]
theorem dcmp_zero {p : List Int} {op n : Int} {p' : List Int} {op' n' : Int} : dcmp p op n p' op' n' = 0 ↔ p = p' ∧ op = op' ∧ n = n' := by
  unfold dcmp
  constructor
  · intro h
    by_cases c : cmp p p' = 0
    · rw [if_neg (by omega)] at h
      by_cases k : op = op'
      · rw [if_neg (by omega)] at h
        exact ⟨cmp_zero _ _ c, k, three_zero.1 h⟩
      · rw [if_pos k] at h
        exact absurd (three_zero.1 h) k
    · rw [if_pos c] at h; exact absurd h c
  · rintro ⟨rfl, rfl, rfl⟩
    rw [cmp_self, if_neg (by simp), if_neg (by simp)]
    exact three_zero.2 rfl
theorem three_trans {a b c : Int} (h : three a b ≤ 0) (k : three b c ≤ 0) : three a c ≤ 0 := by
  unfold three at *
  repeat' split at h
  all_goals repeat' split at k
  all_goals repeat' split
  all_goals omega
theorem three_le {a b : Int} : three a b ≤ 0 ↔ a ≤ b := by
  unfold three
  repeat' split
  all_goals omega
theorem cmp_both {p q r : List Int} (h : cmp p q ≤ 0) (k : cmp q r ≤ 0) (e : cmp p r = 0) : cmp p q = 0 ∧ cmp q r = 0 := by
  have := cmp_zero _ _ e
  subst this
  have t := cmp_turn p q
  omega
theorem dcmp_trans {p : List Int} {op n : Int} {p' : List Int} {op' n' : Int} {p2 : List Int} {op2 n2 : Int} (h : dcmp p op n p' op' n' ≤ 0) (k : dcmp p' op' n' p2 op2 n2 ≤ 0) : dcmp p op n p2 op2 n2 ≤ 0 := by
  unfold dcmp at *
  have h1 : cmp p p' ≤ 0 := by
    by_cases c : cmp p p' = 0
    · omega
    · rw [if_pos c] at h; exact h
  have k1 : cmp p' p2 ≤ 0 := by
    by_cases c : cmp p' p2 = 0
    · omega
    · rw [if_pos c] at k; exact k
  have t := cmp_trans p p' p2 h1 k1
  by_cases e : cmp p p2 = 0
  · obtain ⟨e1, e2⟩ := cmp_both h1 k1 e
    rw [if_neg (by omega)] at h k ⊢
    by_cases o1 : op = op'
    · subst o1
      rw [if_neg (by omega)] at h
      by_cases o2 : op = op2
      · rw [if_neg (by omega)] at k ⊢
        exact three_trans h k
      · rw [if_pos o2] at k ⊢
        exact k
    · rw [if_pos o1] at h
      have h2 := three_le.1 h
      by_cases o2 : op' = op2
      · subst o2
        rw [if_pos o1]
        exact h
      · rw [if_pos o2] at k
        have k2 := three_le.1 k
        rw [if_pos (by omega)]
        exact three_trans h k
  · rw [if_pos e]; exact t

/-- Ahead of the place, and behind it, all is as it was. -/
theorem swap_len {l m : List Nd} {a b : Nat} (ha : a ≤ l.length) : (swap l a b m).length = a + m.length + (l.length - b) := by
  unfold swap
  rw [List.length_append, List.length_append, List.length_take, List.length_drop]
  omega
/-- What is done is one swap within what stands below the node. -/
theorem dch_swap {l : List Nd} {a n : Nat} {x : Nd} (h : scan 1 (l.drop a) = some n) (hx : l[a]? = some x) {op v : Int} (hm : dmay x.1 op v = true) : ∃ (f t : Nat) (y : Nd), dch l a op v = swap l f t [y] ∧ a ≤ f ∧ f ≤ t ∧ t ≤ a + n ∧ t ≤ l.length ∧ (op ≤ 4 → f = a ∧ t = a + 1) := by
  have hl := scan_le _ _ _ h
  rw [List.length_drop] at hl
  have ha : a < l.length := (List.getElem?_eq_some_iff.1 hx).1
  unfold dch
  by_cases o1 : op = 1 ∨ op = 2 ∨ op = 3
  · rw [if_pos o1]
    exact ⟨a, a + 1, _, rfl, by omega, by omega, by omega, by omega, fun _ => ⟨rfl, rfl⟩⟩
  rw [if_neg o1]
  by_cases o4 : op = 4
  · rw [if_pos o4]
    exact ⟨a, a + 1, _, rfl, by omega, by omega, by omega, by omega, fun _ => ⟨rfl, rfl⟩⟩
  rw [if_neg o4]
  by_cases o5 : op = 5
  · rw [if_pos o5, aend_some h, show (((a : Int) + (n : Int)).toNat) = a + n by omega]
    exact ⟨a, a + n, _, rfl, by omega, by omega, by omega, by omega, fun _ => by omega⟩
  rw [if_neg o5]
  by_cases o6 : op = 6
  · rw [if_pos o6]
    exact ⟨a + 1, a + 1, _, rfl, by omega, by omega, by omega, by omega, fun _ => by omega⟩
  rw [if_neg o6]
  unfold dmay at hm
  by_cases o7 : op = 7
  · rw [if_neg (by omega), if_neg (by omega), if_neg (by omega), if_neg o4, if_neg o5, if_neg o6, if_pos o7, decide_eq_true_eq] at hm
    have hd : l.drop a = x :: l.drop (a + 1) := by
      rw [List.drop_eq_getElem_cons ha]
      rw [List.getElem?_eq_getElem ha] at hx
      rw [Option.some.inj hx]
    have har : 0 ≤ ar x := by
      by_cases c : ar x < 0
      · rw [hd, show (1 : Nat) = 0 + 1 from rfl, scan_bad c] at h; cases h
      · omega
    have ha1 : ar x = 1 := by
      unfold ar at har ⊢
      rw [hm] at har ⊢
      rw [if_neg (by decide)] at har ⊢
      split
      · rename_i c; rw [if_pos c] at har; omega
      · unfold asks; simp
    rw [hd, show (1 : Nat) = 0 + 1 from rfl, scan_good har, ha1, Option.map_eq_some_iff] at h
    obtain ⟨n1, h1, rfl⟩ := h
    have h1' : scan 1 (l.drop (a + 1)) = some n1 := h1
    rw [aend_some h1', show ((((a + 1 : Nat) : Int) + (n1 : Int)).toNat) = a + 1 + n1 by omega]
    have hl1 := scan_le _ _ _ h1'
    rw [List.length_drop] at hl1
    exact ⟨a + 1, a + 1 + n1, _, rfl, by omega, by omega, by omega, by omega, fun _ => by omega⟩
  · rw [if_neg (by omega), if_neg (by omega), if_neg (by omega), if_neg o4, if_neg o5, if_neg o6, if_neg o7] at hm
    cases hm
end Go.Proofs.YtofhgaioidfdmaaGreat.Delta

namespace Go.Proofs.YtofhgaioidfdmaaGreat.Delta
open Go.RowKit Leb Mem _root_.Go.Proofs.YtofhgaioidfdmaaGreat.Arena _root_.Go.Proofs.YtofhgaioidfdmaaGreat.Kinds _root_.Go.Proofs.YtofhgaioidfdmaaGreat.Path
set_option linter.unusedVariables false

/-- A delta: its path, operator and number, and where the path lies. -/
structure Dlt where
  A : Option Addr
  c : Nat
  p : List Int
  op : Int
  n : Int
/-- It lies in memory, and is not large. -/
structure Dlt.Ok (d : Dlt) (w : World) : Prop where
  path : IRow w w.heap.size d.A d.p
  len : d.p.length ≤ 1000000
  cap : d.p.length ≤ d.c
  none : d.A = none → d.c = 0
theorem Dlt.Ok.at {d : Dlt} {w w' : World} (h : d.Ok w) (hb : Below w.heap.size w w') : d.Ok w' := ⟨h.path.at hb, h.len, h.cap, h.none⟩
theorem Dlt.Ok.drew {d : Dlt} {w : World} (h : d.Ok w) : d.Ok w.drew := ⟨h.path, h.len, h.cap, h.none⟩
/-- Its numbers fit into 64 bits. -/
def N64 (n : Int) : Prop := -9223372036854775808 ≤ n ∧ n ≤ 9223372036854775807

/-- What is wrong with a delta of a body. -/
def aerr (xs : List Nd) (p : List Int) (op n : Int) : Int := if pfind xs p = -1 then 16 else if dmay (xs.getD (pfind xs p).toNat (0, 0)).1 op n = true then 0 else 17
/-- What a body becomes. -/
def anew (xs : List Nd) (p : List Int) (op n : Int) : List Nd := dch xs (pfind xs p).toNat op n
theorem find_cases (xs : List Nd) (p : List Int) : pfind xs p = -1 ∨ ∃ (a n : Nat) (x : Nd), pfind xs p = a ∧ scan 1 (xs.drop a) = some n ∧ xs[a]? = some x ∧ a + n ≤ xs.length ∧ 1 ≤ n := by
  by_cases hw : Whole xs
  · have h : pfind xs p = down xs p 0 := if_pos hw
    rw [h]
    by_cases h0 : 0 ≤ down xs p 0
    · obtain ⟨b, m, e, t, s1, s2, -⟩ := down_in xs p 0 xs.length hw.t h0
      have hp := t.pos
      exact .inr ⟨b, m, xs[b]'(by omega), e, t, List.getElem?_eq_getElem _, hp.2, hp.1⟩
    · refine .inl ?_
      have key : ∀ (p : List Int) (a : Nat) (n : Nat), T xs a n → down xs p a = -1 ∨ 0 ≤ down xs p a := by
        intro p
        induction p with
        | nil => intro a n _; right; rw [down_nil]; omega
        | cons y p ih =>
          intro a n ht
          by_cases hy : y < 0 ∨ ((akids xs a).length : Int) ≤ y
          · exact .inl (down_no hy)
          · obtain ⟨j, rfl⟩ := Int.eq_ofNat_of_zero_le (show 0 ≤ y by omega)
            obtain ⟨q, m, r1, r2, -⟩ := kid_at ht (j := j) (by omega)
            rw [down_go r1]
            exact ih q m r2
      rcases key p 0 xs.length hw.t with q | q
      · exact q
      · exact absurd q h0
  · exact .inl (if_neg hw)
theorem aerr_path {xs : List Nd} {p : List Int} (h : pfind xs p = -1) (op n : Int) : aerr xs p op n = 16 := if_pos h
theorem aerr_at {xs : List Nd} {p : List Int} {a : Nat} {x : Nd} (h : pfind xs p = a) (hx : xs[a]? = some x) (op n : Int) : aerr xs p op n = if dmay x.1 op n = true then 0 else 17 := by
  unfold aerr
  rw [if_neg (by omega), h, Int.toNat_natCast, getD_at hx]
theorem aerr_zero {xs : List Nd} {p : List Int} {op n : Int} (h : aerr xs p op n = 0) : ∃ (a m : Nat) (x : Nd), pfind xs p = a ∧ scan 1 (xs.drop a) = some m ∧ xs[a]? = some x ∧ a + m ≤ xs.length ∧ 1 ≤ m ∧ dmay x.1 op n = true ∧ anew xs p op n = dch xs a op n := by
  rcases find_cases xs p with q | ⟨a, m, x, h1, h2, h3, h4, h5⟩
  · rw [aerr_path q] at h; cases h
  · rw [aerr_at h1 h3] at h
    by_cases hm : dmay x.1 op n = true
    · exact ⟨a, m, x, h1, h2, h3, h4, h5, hm, by unfold anew; rw [h1, Int.toNat_natCast]⟩
    · rw [if_neg hm] at h; cases h
theorem dch_len {xs : List Nd} {a m : Nat} {x : Nd} (h : scan 1 (xs.drop a) = some m) (hx : xs[a]? = some x) {op n : Int} (hm : dmay x.1 op n = true) : (dch xs a op n).length ≤ xs.length + 1 := by
  obtain ⟨f, t, y, e, h1, h2, h3, h4, -⟩ := dch_swap h hx hm
  rw [e, swap_len (by omega), List.length_singleton]
  omega
theorem anew_len {xs : List Nd} {p : List Int} {op n : Int} (h : aerr xs p op n = 0) : (anew xs p op n).length ≤ xs.length + 1 := by
  obtain ⟨a, m, x, -, h2, h3, -, -, h6, h7⟩ := aerr_zero h
  rw [h7]
  exact dch_len h2 h3 h6

/-- A program that is changed, or what is wrong. -/
def AEnds (p : Prg) (d : Dlt) (w : World) (e : Ending) (w' : World) : Prop :=
  Below w.heap.size w w' ∧
  ((aerr p.xs d.p d.op d.n = 0 ∧ ∃ A c B ce, e = .returned (.tuple #[.agg #[.int .i64 p.ps, .slice A p.vs.length c, .slice B (anew p.xs d.p d.op d.n).length ce], .int .i64 0]) ∧ Prg.Ok ⟨p.ps, A, c, p.vs, B, ce, anew p.xs d.p d.op d.n⟩ w') ∨
   (aerr p.xs d.p d.op d.n ≠ 0 ∧ ∃ A c B ce, e = .returned (.tuple #[.agg #[.int .i64 0, .slice A 0 c, .slice B 0 ce], .int .i64 (aerr p.xs d.p d.op d.n)]) ∧ Prg.Ok ⟨0, A, c, [], B, ce, []⟩ w'))
/-- The like, and the variables' row is the program's own, or newer than all that was there. -/
def AEndsF (p : Prg) (d : Dlt) (w : World) (e : Ending) (w' : World) : Prop :=
  Below w.heap.size w w' ∧
  ((aerr p.xs d.p d.op d.n = 0 ∧ ∃ A c B ce, e = .returned (.tuple #[.agg #[.int .i64 p.ps, .slice A p.vs.length c, .slice B (anew p.xs d.p d.op d.n).length ce], .int .i64 0]) ∧ Prg.Ok ⟨p.ps, A, c, p.vs, B, ce, anew p.xs d.p d.op d.n⟩ w' ∧ ∀ ad, A = some ad → p.A = some ad ∨ w.heap.size ≤ ad.block) ∨
   (aerr p.xs d.p d.op d.n ≠ 0 ∧ ∃ A c B ce, e = .returned (.tuple #[.agg #[.int .i64 0, .slice A 0 c, .slice B 0 ce], .int .i64 (aerr p.xs d.p d.op d.n)]) ∧ Prg.Ok ⟨0, A, c, [], B, ce, []⟩ w'))
theorem AEndsF.end {p : Prg} {d : Dlt} {w w' : World} {e : Ending} (h : AEndsF p d w e w') : AEnds p d w e w' := by
  obtain ⟨hb, ⟨h0, A, c, B, ce, h1, h2, -⟩ | h⟩ := h
  · exact ⟨hb, .inl ⟨h0, A, c, B, ce, h1, h2⟩⟩
  · exact ⟨hb, .inr h⟩
/-- The delta of bytes, or none. -/
def DEnds (S : ByteArray) (w : World) (e : Ending) (w' : World) : Prop :=
  Below w.heap.size w w' ∧
  ((dfits S ∧ ∃ A c, e = .returned (.tuple #[.agg #[.slice A (d2 S).1.length c, .int .i64 (d3 S).2, .int .i64 (d4 S).2], .int .i64 0]) ∧ Dlt.Ok ⟨A, c, (d2 S).1, (d3 S).2, (d4 S).2⟩ w') ∨
   (¬ dfits S ∧ ∃ A c, e = .returned (.tuple #[.agg #[.slice A 0 c, .int .i64 0, .int .i64 0], .int .i64 12]) ∧ Dlt.Ok ⟨A, c, [], 0, 0⟩ w'))
theorem AEnds.ok {p : Prg} {d : Dlt} {w w' : World} {e : Ending} (h : AEnds p d w e w') (h0 : aerr p.xs d.p d.op d.n = 0) : Below w.heap.size w w' ∧ ∃ A c B ce, e = .returned (.tuple #[.agg #[.int .i64 p.ps, .slice A p.vs.length c, .slice B (anew p.xs d.p d.op d.n).length ce], .int .i64 0]) ∧ Prg.Ok ⟨p.ps, A, c, p.vs, B, ce, anew p.xs d.p d.op d.n⟩ w' := by
  obtain ⟨hb, ⟨-, h⟩ | ⟨hn, -⟩⟩ := h
  · exact ⟨hb, h⟩
  · exact absurd h0 hn
theorem AEnds.no {p : Prg} {d : Dlt} {w w' : World} {e : Ending} (h : AEnds p d w e w') (h0 : aerr p.xs d.p d.op d.n ≠ 0) : Below w.heap.size w w' ∧ ∃ A c B ce, e = .returned (.tuple #[.agg #[.int .i64 0, .slice A 0 c, .slice B 0 ce], .int .i64 (aerr p.xs d.p d.op d.n)]) ∧ Prg.Ok ⟨0, A, c, [], B, ce, []⟩ w' := by
  obtain ⟨hb, ⟨hn, -⟩ | ⟨-, h⟩⟩ := h
  · exact absurd hn h0
  · exact ⟨hb, h⟩
theorem AEndsF.ok {p : Prg} {d : Dlt} {w w' : World} {e : Ending} (h : AEndsF p d w e w') (h0 : aerr p.xs d.p d.op d.n = 0) : Below w.heap.size w w' ∧ ∃ A c B ce, e = .returned (.tuple #[.agg #[.int .i64 p.ps, .slice A p.vs.length c, .slice B (anew p.xs d.p d.op d.n).length ce], .int .i64 0]) ∧ Prg.Ok ⟨p.ps, A, c, p.vs, B, ce, anew p.xs d.p d.op d.n⟩ w' ∧ ∀ ad, A = some ad → p.A = some ad ∨ w.heap.size ≤ ad.block := by
  obtain ⟨hb, ⟨-, h⟩ | ⟨hn, -⟩⟩ := h
  · exact ⟨hb, h⟩
  · exact absurd h0 hn
theorem DEnds.ok {S : ByteArray} {w w' : World} {e : Ending} (h : DEnds S w e w') {p : List Int} {op n : Int} (hf : dfits S) (h1 : (d2 S).1 = p) (h2 : (d3 S).2 = op) (h3 : (d4 S).2 = n) : Below w.heap.size w w' ∧ ∃ A c, e = .returned (.tuple #[.agg #[.slice A p.length c, .int .i64 op, .int .i64 n], .int .i64 0]) ∧ Dlt.Ok ⟨A, c, p, op, n⟩ w' := by
  obtain ⟨hb, ⟨-, A, c, he, hk⟩ | ⟨hn, -⟩⟩ := h
  · rw [h1, h2, h3] at he hk
    exact ⟨hb, A, c, he, hk⟩
  · exact absurd hf hn
theorem DEnds.no {S : ByteArray} {w w' : World} {e : Ending} (h : DEnds S w e w') (hf : ¬ dfits S) : Below w.heap.size w w' ∧ ∃ A c, e = .returned (.tuple #[.agg #[.slice A 0 c, .int .i64 0, .int .i64 0], .int .i64 12]) ∧ Dlt.Ok ⟨A, c, [], 0, 0⟩ w' := by
  obtain ⟨hb, ⟨hy, -⟩ | ⟨-, h⟩⟩ := h
  · exact absurd hy hf
  · exact ⟨hb, h⟩

end Go.Proofs.YtofhgaioidfdmaaGreat.Delta

namespace Go.Proofs.YtofhgaioidfdmaaGreat.Delta
open Go.RowKit Mem Go.ChangeShapes Go.WideShapes Go.Deep Go.Joins _root_.Go.Proofs.YtofhgaioidfdmaaGreat.Arena _root_.Go.Proofs.YtofhgaioidfdmaaGreat.Kinds

/-- A delta that came in: it lies in memory; how long its path is is not known. -/
structure Dlt.In (d : Dlt) (w : World) : Prop where
  path : IRow w w.heap.size d.A d.p
  len : d.p.length ≤ maxLen
  cap : d.p.length ≤ d.c
  none : d.A = none → d.c = 0
  n64 : N64 d.n
theorem Dlt.In.at {d : Dlt} {w w' : World} (h : d.In w) (hb : Below w.heap.size w w') : d.In w' := ⟨h.path.at hb, h.len, h.cap, h.none, h.n64⟩
theorem Dlt.In.ok {d : Dlt} {w : World} (h : d.In w) (h1 : d.p.length ≤ 1000000) : d.Ok w := ⟨h.path, h1, h.cap, h.none⟩

section
variable {H : Type} {enc : TypeId × Value → H} {W : World} {spare : Nat → Bool} {held : Bool}

set_option maxRecDepth 100000 in
/-- One delta by value. -/
theorem open_delta {b0 : Nat} {v : Value} {d : DataW H} {q : List MemPlace} (hv : Value.okWide Tryz.prog W .any b0 34 v) (h : DataW.Trod enc Tryz.prog W 0 spare held 34 v d q) :
    ∃ p : Dlt, v = .agg #[.slice p.A p.p.length p.c, .int .i64 p.op, .int .i64 p.n] ∧ p.In W := by
  obtain ⟨cs, rfl, -⟩ := okWide_struct Tryz.underlying34 hv
  obtain ⟨fuel, hf⟩ := h
  have hC : Tryz.prog.cellsOf 34 = 3 := by kernel_rfl
  have hC0 : Tryz.prog.cellsOf 3 = 1 := by kernel_rfl
  have hC1 : Tryz.prog.cellsOf 22 = 1 := by kernel_rfl
  obtain ⟨l⟩ := cs
  obtain ⟨y0, y1, y2, m, hx, hl, h0, h1, h2⟩ := trod_struct3 Tryz.underlying34 hf
  rw [hC] at hl
  simp only [Value.cells] at hl h0 h1 h2
  match l, hl with
  | [c0, c1, c2], _ =>
    obtain ⟨A, c, ks, e0, r1, r2, r3, r4⟩ := Kinds.ints_of h0
    obtain ⟨op, e1, -, -⟩ := DataW.trod_int Tryz.underlying3 h1
    obtain ⟨n, e2, -, wf⟩ := DataW.trod_int Tryz.underlying3 h2
    simp only [hC0, hC1] at e0 e1 e2
    simp at e0 e1 e2
    exact ⟨⟨A, c, ks, op, n⟩, by simp [e0, e1, e2], ⟨r4, r1, r2, r3, Code.wf_i64 wf⟩⟩

end
end Go.Proofs.YtofhgaioidfdmaaGreat.Delta
