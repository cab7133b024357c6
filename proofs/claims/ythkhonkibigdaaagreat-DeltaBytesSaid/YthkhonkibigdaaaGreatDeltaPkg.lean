/-
  What the functions of deltas come to.
-/
import Derived.Test.YthkhonkibigdaaaGreatDeltaPlain
import Derived.Test.YthkhonkibigdaaaGreatDeltaBytes
import Derived.Test.YthkhonkibigdaaaGreatPathG
import Derived.Test.YthkhonkibigdaaaGreatKindsG
namespace Go.Proofs.YthkhonkibigdaaaGreat.Delta
open Go.RowKit Leb Mem _root_.Go.Proofs.YthkhonkibigdaaaGreat.Arena _root_.Go.Proofs.YthkhonkibigdaaaGreat.Kinds _root_.Go.Proofs.YthkhonkibigdaaaGreat.Path
set_option linter.unusedVariables false

/-- A delta: its path, operator and number, and where the path lies. -/
structure Dlt where
  A : Option Addr
  c : Nat
  p : List Int
  op : Int
  n : Int
/-- It lies in memory, and is not large. -/
structure Dlt.Ok (d : Dlt) (w : World) : Prop where
  path : IRow w w.heap.size d.A d.p
  len : d.p.length ≤ 1000000
  cap : d.p.length ≤ d.c
  none : d.A = none → d.c = 0
theorem Dlt.Ok.at {d : Dlt} {w w' : World} (h : d.Ok w) (hb : Below w.heap.size w w') : d.Ok w' := ⟨h.path.at hb, h.len, h.cap, h.none⟩
theorem Dlt.Ok.drew {d : Dlt} {w : World} (h : d.Ok w) : d.Ok w.drew := ⟨h.path, h.len, h.cap, h.none⟩
/-- Its numbers fit into 64 bits. -/
def N64 (n : Int) : Prop := -9223372036854775808 ≤ n ∧ n ≤ 9223372036854775807

/-- What is wrong with a delta of a body. -/
def aerr (xs : List Nd) (p : List Int) (op n : Int) : Int := if pfind xs p = -1 then 16 else if dmay (xs.getD (pfind xs p).toNat (0, 0)).1 op n = true then 0 else 17
/-- What a body becomes. -/
def anew (xs : List Nd) (p : List Int) (op n : Int) : List Nd := dch xs (pfind xs p).toNat op n
theorem find_cases (xs : List Nd) (p : List Int) : pfind xs p = -1 ∨ ∃ (a n : Nat) (x : Nd), pfind xs p = a ∧ scan 1 (xs.drop a) = some n ∧ xs[a]? = some x ∧ a + n ≤ xs.length ∧ 1 ≤ n := by
  by_cases hw : Whole xs
  · have h : pfind xs p = down xs p 0 := if_pos hw
    rw [h]
    by_cases h0 : 0 ≤ down xs p 0
    · obtain ⟨b, m, e, t, s1, s2, -⟩ := down_in xs p 0 xs.length hw.t h0
      have hp := t.pos
      exact .inr ⟨b, m, xs[b]'(by omega), e, t, List.getElem?_eq_getElem _, hp.2, hp.1⟩
    · refine .inl ?_
      have key : ∀ (p : List Int) (a : Nat) (n : Nat), T xs a n → down xs p a = -1 ∨ 0 ≤ down xs p a := by
        intro p
        induction p with
        | nil => intro a n _; right; rw [down_nil]; omega
        | cons y p ih =>
          intro a n ht
          by_cases hy : y < 0 ∨ ((akids xs a).length : Int) ≤ y
          · exact .inl (down_no hy)
          · obtain ⟨j, rfl⟩ := Int.eq_ofNat_of_zero_le (show 0 ≤ y by omega)
            obtain ⟨q, m, r1, r2, -⟩ := kid_at ht (j := j) (by omega)
            rw [down_go r1]
            exact ih q m r2
      rcases key p 0 xs.length hw.t with q | q
      · exact q
      · exact absurd q h0
  · exact .inl (if_neg hw)
theorem aerr_path {xs : List Nd} {p : List Int} (h : pfind xs p = -1) (op n : Int) : aerr xs p op n = 16 := if_pos h
theorem aerr_at {xs : List Nd} {p : List Int} {a : Nat} {x : Nd} (h : pfind xs p = a) (hx : xs[a]? = some x) (op n : Int) : aerr xs p op n = if dmay x.1 op n = true then 0 else 17 := by
  unfold aerr
  rw [if_neg (by omega), h, Int.toNat_natCast, getD_at hx]
theorem aerr_zero {xs : List Nd} {p : List Int} {op n : Int} (h : aerr xs p op n = 0) : ∃ (a m : Nat) (x : Nd), pfind xs p = a ∧ scan 1 (xs.drop a) = some m ∧ xs[a]? = some x ∧ a + m ≤ xs.length ∧ 1 ≤ m ∧ dmay x.1 op n = true ∧ anew xs p op n = dch xs a op n := by
  rcases find_cases xs p with q | ⟨a, m, x, h1, h2, h3, h4, h5⟩
  · rw [aerr_path q] at h; cases h
  · rw [aerr_at h1 h3] at h
    by_cases hm : dmay x.1 op n = true
    · exact ⟨a, m, x, h1, h2, h3, h4, h5, hm, by unfold anew; rw [h1, Int.toNat_natCast]⟩
    · rw [if_neg hm] at h; cases h
theorem dch_len {xs : List Nd} {a m : Nat} {x : Nd} (h : scan 1 (xs.drop a) = some m) (hx : xs[a]? = some x) {op n : Int} (hm : dmay x.1 op n = true) : (dch xs a op n).length ≤ xs.length + 1 := by
  obtain ⟨f, t, y, e, h1, h2, h3, h4, -⟩ := dch_swap h hx hm
  rw [e, swap_len (by omega), List.length_singleton]
  omega
theorem anew_len {xs : List Nd} {p : List Int} {op n : Int} (h : aerr xs p op n = 0) : (anew xs p op n).length ≤ xs.length + 1 := by
  obtain ⟨a, m, x, -, h2, h3, -, -, h6, h7⟩ := aerr_zero h
  rw [h7]
  exact dch_len h2 h3 h6

/-- A program that is changed, or what is wrong. -/
def AEnds (p : Prg) (d : Dlt) (w : World) (e : Ending) (w' : World) : Prop :=
  Below w.heap.size w w' ∧
  ((aerr p.xs d.p d.op d.n = 0 ∧ ∃ A c B ce, e = .returned (.tuple #[.agg #[.int .i64 p.ps, .slice A p.vs.length c, .slice B (anew p.xs d.p d.op d.n).length ce], .int .i64 0]) ∧ Prg.Ok ⟨p.ps, A, c, p.vs, B, ce, anew p.xs d.p d.op d.n⟩ w') ∨
   (aerr p.xs d.p d.op d.n ≠ 0 ∧ ∃ A c B ce, e = .returned (.tuple #[.agg #[.int .i64 0, .slice A 0 c, .slice B 0 ce], .int .i64 (aerr p.xs d.p d.op d.n)]) ∧ Prg.Ok ⟨0, A, c, [], B, ce, []⟩ w'))
/-- The delta of bytes, or none. -/
def DEnds (S : ByteArray) (w : World) (e : Ending) (w' : World) : Prop :=
  Below w.heap.size w w' ∧
  ((dfits S ∧ ∃ A c, e = .returned (.tuple #[.agg #[.slice A (d2 S).1.length c, .int .i64 (d3 S).2, .int .i64 (d4 S).2], .int .i64 0]) ∧ Dlt.Ok ⟨A, c, (d2 S).1, (d3 S).2, (d4 S).2⟩ w') ∨
   (¬ dfits S ∧ ∃ A c, e = .returned (.tuple #[.agg #[.slice A 0 c, .int .i64 0, .int .i64 0], .int .i64 12]) ∧ Dlt.Ok ⟨A, c, [], 0, 0⟩ w'))
/-- What the package's functions come to. -/
structure Pkg : Prop where
  apply : ∀ (p : Prg) (d : Dlt) (w : World), p.Ok w → d.Ok w → p.xs.length ≤ 100000 → Calls Tryz.prog 14 #[.agg #[.int .i64 p.ps, .slice p.A p.vs.length p.c, .slice p.B p.xs.length p.e], .agg #[.slice d.A d.p.length d.c, .int .i64 d.op, .int .i64 d.n]] w (AEnds p d w)
  put : ∀ (d : Dlt) (w : World), d.Ok w → Right d.p d.op → N64 d.n → Calls Tryz.prog 7 #[.agg #[.slice d.A d.p.length d.c, .int .i64 d.op, .int .i64 d.n]] w fun e w' => e = .returned (.tuple #[.string ⟨(dput d.p d.op d.n).toArray⟩, .int .i64 0]) ∧ Below w.heap.size w w'
  putNo : ∀ (d : Dlt) (w : World), d.Ok w → ¬ Right d.p d.op → Calls Tryz.prog 7 #[.agg #[.slice d.A d.p.length d.c, .int .i64 d.op, .int .i64 d.n]] w fun e w' => e = .returned (.tuple #[.string ⟨#[]⟩, .int .i64 17]) ∧ Below w.heap.size w w'
  get : ∀ (S : ByteArray) (w : World), S.size ≤ 10000 → Calls Tryz.prog 9 #[.string S] w (DEnds S w)
  compare : ∀ (a b : Dlt) (w : World), a.Ok w → b.Ok w → Calls Tryz.prog 19 #[.agg #[.slice a.A a.p.length a.c, .int .i64 a.op, .int .i64 a.n], .agg #[.slice b.A b.p.length b.c, .int .i64 b.op, .int .i64 b.n]] w fun e w' => e = .returned (.int .i64 (dcmp a.p a.op a.n b.p b.op b.n)) ∧ Below w.heap.size w w'
  same : ∀ (a b : Dlt) (w : World), a.Ok w → b.Ok w → Calls Tryz.prog 18 #[.agg #[.slice a.A a.p.length a.c, .int .i64 a.op, .int .i64 a.n], .agg #[.slice b.A b.p.length b.c, .int .i64 b.op, .int .i64 b.n]] w fun e w' => e = .returned (.bool (dcmp a.p a.op a.n b.p b.op b.n == 0)) ∧ Below w.heap.size w w'

theorem AEnds.ok {p : Prg} {d : Dlt} {w w' : World} {e : Ending} (h : AEnds p d w e w') (h0 : aerr p.xs d.p d.op d.n = 0) : Below w.heap.size w w' ∧ ∃ A c B ce, e = .returned (.tuple #[.agg #[.int .i64 p.ps, .slice A p.vs.length c, .slice B (anew p.xs d.p d.op d.n).length ce], .int .i64 0]) ∧ Prg.Ok ⟨p.ps, A, c, p.vs, B, ce, anew p.xs d.p d.op d.n⟩ w' := by
  obtain ⟨hb, ⟨-, h⟩ | ⟨hn, -⟩⟩ := h
  · exact ⟨hb, h⟩
  · exact absurd h0 hn
theorem AEnds.no {p : Prg} {d : Dlt} {w w' : World} {e : Ending} (h : AEnds p d w e w') (h0 : aerr p.xs d.p d.op d.n ≠ 0) : Below w.heap.size w w' ∧ ∃ A c B ce, e = .returned (.tuple #[.agg #[.int .i64 0, .slice A 0 c, .slice B 0 ce], .int .i64 (aerr p.xs d.p d.op d.n)]) ∧ Prg.Ok ⟨0, A, c, [], B, ce, []⟩ w' := by
  obtain ⟨hb, ⟨hn, -⟩ | ⟨-, h⟩⟩ := h
  · exact absurd hn h0
  · exact ⟨hb, h⟩
theorem DEnds.ok {S : ByteArray} {w w' : World} {e : Ending} (h : DEnds S w e w') {p : List Int} {op n : Int} (hf : dfits S) (h1 : (d2 S).1 = p) (h2 : (d3 S).2 = op) (h3 : (d4 S).2 = n) : Below w.heap.size w w' ∧ ∃ A c, e = .returned (.tuple #[.agg #[.slice A p.length c, .int .i64 op, .int .i64 n], .int .i64 0]) ∧ Dlt.Ok ⟨A, c, p, op, n⟩ w' := by
  obtain ⟨hb, ⟨-, A, c, he, hk⟩ | ⟨hn, -⟩⟩ := h
  · rw [h1, h2, h3] at he hk
    exact ⟨hb, A, c, he, hk⟩
  · exact absurd hf hn
theorem DEnds.no {S : ByteArray} {w w' : World} {e : Ending} (h : DEnds S w e w') (hf : ¬ dfits S) : Below w.heap.size w w' ∧ ∃ A c, e = .returned (.tuple #[.agg #[.slice A 0 c, .int .i64 0, .int .i64 0], .int .i64 12]) ∧ Dlt.Ok ⟨A, c, [], 0, 0⟩ w' := by
  obtain ⟨hb, ⟨hy, -⟩ | ⟨-, h⟩⟩ := h
  · exact absurd hy hf
  · exact ⟨hb, h⟩

end Go.Proofs.YthkhonkibigdaaaGreat.Delta
