/-
  Package code, walked: its writer.
  Package code, walked: nodes are written.
  Package code, walked: a program's bytes, and what is wrong with it.
  Package code, walked: its reader, one thing by one.
  Package code, walked: variables are read.
  Package code, walked: nodes are read, up to the first one with which something is wrong.
  Package code, walked: the program of bytes.
  Package code, walked: Get; what the package's functions come to.
-/
import Derived.Test.YtlecofghifjmcaaCodeG
import Derived.Test.YtlecofghifjmcaaWireG
import Derived.Deep.RegionHeld3
import Derived.Deep.DrawnRows
import Derived.Handy
import Derived.Test.YtlecofghifjmcaaKindsP
import Derived.Test.YtlecofghifjmcaaWireOps
import Derived.Test.YtlecofghifjmcaaArenaH
namespace Go.Proofs.Ytlecofghifjmcaa.Code
open Go.RowKit Leb Mem Wire _root_.Go.Proofs.Ytlecofghifjmcaa.Arena _root_.Go.Proofs.Ytlecofghifjmcaa.Kinds
set_option linter.unusedVariables false
attribute [local go_sem ↓] Go.wp_at_zero Go.wp_at_succ

section
variable {g : Nat} {R0 : Option Nat} {W w : World} {l : List UInt8}
end

/-- The same writer, since a later world. -/
theorem Wb.again {g : Nat} {R0 : Option Nat} {W w : World} {l : List UInt8} (h : Wb g R0 W l w) : ∃ R, Wr w g R l ∧ (∀ k, Its g R k → k < w.heap.size) ∧ (∀ k, R = some k → R0 = some k ∨ W.heap.size ≤ k) ∧
    ∀ (w1 : World) (_ : Below w.heap.size w w1) (m : List UInt8) (w2 : World), Wb g R w1 m w2 → Wb g R0 W m w2 := by
  obtain ⟨R, h1, h2, h3⟩ := h
  refine ⟨R, h1, h1.its_lt, h3, fun w1 hb m w2 hw => ?_⟩
  obtain ⟨R2, g1, g2, g3⟩ := hw
  have hs : W.heap.size ≤ w1.heap.size := Nat.le_trans h2.size hb.size
  refine ⟨R2, g1, (h2.below hb).then g2 ?_, fun k hk => ?_⟩
  · rintro i (rfl | hi)
    · exact .inl (.inl rfl)
    · exact (h3 i hi).imp .inr id
  · rcases g3 k hk with q | q
    · exact h3 k q
    · exact .inr (Nat.le_trans hs q)

section
variable {g : Nat} {R0 : Option Nat} {W w : World} {l : List UInt8}
theorem vars_snoc (vs : List Int) (k : Nat) (x : Int) (h : vs[k]? = some x) : (vs.take (k + 1)).map tb = (vs.take k).map tb ++ [tb x] := by
  rw [List.take_add_one, h]; simp
end

end Go.Proofs.Ytlecofghifjmcaa.Code

namespace Go.Proofs.Ytlecofghifjmcaa.Code
open Go.RowKit Leb Mem Wire _root_.Go.Proofs.Ytlecofghifjmcaa.Arena _root_.Go.Proofs.Ytlecofghifjmcaa.Kinds
set_option linter.unusedVariables false
attribute [local go_sem ↓] Go.wp_at_zero Go.wp_at_succ

section
variable {g : Nat} {R0 : Option Nat} {W w : World} {l : List UInt8}
end

end Go.Proofs.Ytlecofghifjmcaa.Code

namespace Go.Proofs.Ytlecofghifjmcaa.Code
open Go.RowKit Leb Mem Wire _root_.Go.Proofs.Ytlecofghifjmcaa.Arena _root_.Go.Proofs.Ytlecofghifjmcaa.Kinds
set_option linter.unusedVariables false
attribute [local go_sem ↓] Go.wp_at_zero Go.wp_at_succ

end Go.Proofs.Ytlecofghifjmcaa.Code

namespace Go.Proofs.Ytlecofghifjmcaa.Code
open Go.RowKit Leb Mem Wire _root_.Go.Proofs.Ytlecofghifjmcaa.Arena _root_.Go.Proofs.Ytlecofghifjmcaa.Kinds
set_option linter.unusedVariables false
attribute [local go_sem ↓] Go.wp_at_zero Go.wp_at_succ

/-- Since W the reader g has come to stand at s; all else is as it was. -/
structure Rs (g : Nat) (S : ByteArray) (W : World) (s : Int × Int) (w : World) : Prop where
  rd : Rd w g S s.1 s.2
  kept : Kept (· = g) W w
  p0 : 0 ≤ s.1
  p1 : s.1 ≤ S.size
  sz : S.size ≤ 1000000

section
variable {g : Nat} {S : ByteArray} {W w w' : World} {s : Int × Int}
theorem Rs.below (h : Rs g S W s w) (hb : Below w.heap.size w w') : Rs g S W s w' := ⟨h.rd.below hb h.rd.lt, h.kept.below hb, h.p0, h.p1, h.sz⟩
theorem Rs.drew (h : Rs g S W s w) : Rs g S W s w.drew := h.below ((Below.refl _ _).drew)
theorem Rs.again (h : Rs g S W s w) (hb : Below w.heap.size w w') : Rs g S w' s w' := ⟨h.rd.below hb h.rd.lt, Kept.refl _ _, h.p0, h.p1, h.sz⟩
theorem Rs.back {w1 w2 : World} {t : Int × Int} (h : Rs g S W s w) (hb : Below w.heap.size w w1) (k : Rs g S w1 t w2) : Rs g S W t w2 := ⟨k.rd, (h.kept.below hb).trans k.kept, k.p0, k.p1, k.sz⟩
theorem Rs.blk (h : Rs g S W s w) {k : Nat} {t : TypeId} {cs : Array Value} (hb : Blk W k t cs) (hn : k ≠ g) : Blk w k t cs := hb.kept h.kept hn
theorem Rs.row (h : Rs g S W s w) {base : Nat} {e : TypeId} {n m : Nat} {v : Value} {xs : List Value} (hr : W.ownsRow base e n v m xs) (hb : g < base) : w.ownsRow base e n v m xs :=
  own_of_block hr (fun k hk => by have := hr.lt k hk; exact h.kept.block k this.2 (by omega))
theorem Rs.set (h : Rs g S W s w) {q : Addr} (hg : g ≠ q.block) (hq : W.heap.size ≤ q.block) (v : Value) : Rs g S W s (w.setCell q v) := ⟨h.rd.apart hg v, h.kept.setCell (.inr hq) v, h.p0, h.p1, h.sz⟩
theorem Rs.wide (h : Rs g S W s w) : W.heap.size ≤ w.heap.size := h.kept.size
theorem byte_rng (S : ByteArray) (s : Int × Int) : 0 ≤ (askP S s 0 0).2 ∧ (askP S s 0 0).2 ≤ 255 := by
  unfold askP
  simp only
  rw [if_neg (by decide)]
  rcases fin_num_or (outOf S s.1.toNat 0 0) s.2 s.1.toNat with q | q
  · rw [q]
    unfold outOf
    rw [if_pos rfl]
    split
    · exact byte_le _
    · simp
  · rw [q]; omega
theorem Rs.of_rf {f : Out} {v : Value} {e : Ending} {t : Int × Int} (h : Rs g S W s w) (hf : RF g S f v w e w') (ht : t = (f.to, f.er)) (h0 : 0 ≤ f.to) (h1 : f.to ≤ S.size) : e = .returned v ∧ Rs g S W t w' := by
  obtain ⟨e1, e2, e3⟩ := hf
  subst ht
  exact ⟨e1, e2, h.kept.trans e3, h0, h1, h.sz⟩
theorem Rs.count (h : Rs g S W s w) (N : Int) (hN : N ≤ 9223372036854775807) :
    Calls Try.prog 35 #[.pointer (some ⟨g, 0, none⟩), .int .i64 N] w fun e w' => e = .returned (.int .i64 (askP S s 2 N).2) ∧ Rs g S W (askP S s 2 N).1 w' := by
  obtain ⟨p, hp⟩ := Int.eq_ofNat_of_zero_le h.p0
  have q := h.rd
  have r := askP_range (S := S) (s := s) (k := 2) (N := N) h.p0 h.p1
  have sz := h.sz
  rw [hp] at q
  refine (RCount_any g S p s.2 N w (by omega) hN q).mono (fun e w' hE => ?_)
  have hpt : s.1.toNat = p := by omega
  have hf : RF g S ((outOf S p 2 N).fin s.2 p) (.int .i64 ((outOf S p 2 N).fin s.2 p).num) w e w' := by
    have e2 := @outOf_2 S p N
    rw [e2]
    exact RdEnds.num hE
  rw [show (askP S s 2 N).2 = ((outOf S p 2 N).fin s.2 p).num by unfold askP; rw [hpt]; rfl]
  have ht : (askP S s 2 N).1 = (((outOf S p 2 N).fin s.2 p).to, ((outOf S p 2 N).fin s.2 p).er) := by unfold askP; rw [hpt]
  rw [ht] at r
  exact h.of_rf hf ht r.1 r.2
theorem Rs.int (h : Rs g S W s w) :
    Calls Try.prog 39 #[.pointer (some ⟨g, 0, none⟩)] w fun e w' => e = .returned (.int .i64 (askP S s 3 0).2) ∧ Rs g S W (askP S s 3 0).1 w' := by
  obtain ⟨p, hp⟩ := Int.eq_ofNat_of_zero_le h.p0
  have q := h.rd
  have r := askP_range (S := S) (s := s) (k := 3) (N := 0) h.p0 h.p1
  have sz := h.sz
  rw [hp] at q
  refine (RInt_any g S p s.2 w (by omega) q).mono (fun e w' hE => ?_)
  have hpt : s.1.toNat = p := by omega
  have hf : RF g S ((outOf S p 3 0).fin s.2 p) (.int .i64 ((outOf S p 3 0).fin s.2 p).int) w e w' := by
    have e2 := @outOf_3 S p 0
    rw [e2]
    exact RdEnds.int hE
  rw [show (askP S s 3 0).2 = ((outOf S p 3 0).fin s.2 p).int by unfold askP; rw [hpt]; rfl]
  have ht : (askP S s 3 0).1 = (((outOf S p 3 0).fin s.2 p).to, ((outOf S p 3 0).fin s.2 p).er) := by unfold askP; rw [hpt]
  rw [ht] at r
  exact h.of_rf hf ht r.1 r.2
/-- The node that stands there. -/
def pnode (S : ByteArray) (s : Int × Int) : (Int × Int) × Nd := ((pnum S (askP S s 0 0).1 (askP S s 0 0).2).1, ((askP S s 0 0).2, (pnum S (askP S s 0 0).1 (askP S s 0 0).2).2))
end

end Go.Proofs.Ytlecofghifjmcaa.Code

namespace Go.Proofs.Ytlecofghifjmcaa.Code
open Go.RowKit Leb Mem Wire _root_.Go.Proofs.Ytlecofghifjmcaa.Arena _root_.Go.Proofs.Ytlecofghifjmcaa.Kinds
set_option linter.unusedVariables false
attribute [local go_sem ↓] Go.wp_at_zero Go.wp_at_succ

/-- A row of numbers that the call owns, as numbers. -/
theorem own_ints2 {w : World} {base : Nat} {v : Value} {ks : List Int} (h : w.ownsRow base 3 1 v ks.length (icells ks)) :
    ∃ A c, v = .slice A ks.length c ∧ ks.length ≤ c ∧ (A = none → c = 0) ∧ IRow w w.heap.size A ks ∧ ∀ ad, A = some ad → base ≤ ad.block := by
  have hc := fun g hg => h.cells (g := g) hg
  rcases h.2 with ⟨rfl, h0⟩ | ⟨g, cap, cur, rfl, hbg, hg, hn, -⟩
  · obtain rfl := List.length_eq_zero_iff.1 h0
    exact ⟨none, 0, rfl, Nat.le_refl _, fun _ => rfl, fun i x h => by simp at h, fun ad e => by cases e⟩
  · refine ⟨_, _, rfl, hn, (fun e => by cases e), fun i x hx => ⟨_, rfl, (Array.getElem?_eq_some_iff.1 hg).1, ?_⟩, fun ad e => by cases e; exact hbg⟩
    exact hc g rfl _ _ (by unfold icells; rw [List.getElem?_map, hx]; rfl)
section
variable {g : Nat} {S : ByteArray} {W w w' : World} {s : Int × Int}
theorem Rs.grown {row : Option Nat} (h : Rs g S W s w) (hgl : g < W.heap.size) (hg : w.grownBy w' row) (hr : ∀ k, row = some k → W.heap.size ≤ k) : Rs g S W s w' :=
  ⟨h.rd.grown hg (fun e => by have := hr g e.symm; omega), h.kept.grown hg (fun k hk => .inr (hr k hk)), h.p0, h.p1, h.sz⟩
theorem row_kept {A : Option Addr} {ks : List Int} (h : IRow w w.heap.size A ks) (hA : ∀ ad, A = some ad → ad.block ≠ g) (k : Kept (· = g) w w') : IRow w' w'.heap.size A ks := by
  intro i x hx
  obtain ⟨ad, h0, h1, h3⟩ := h i x hx
  have hne := hA ad h0
  refine ⟨ad, h0, Nat.lt_of_lt_of_le h1 k.size, ?_⟩
  rw [k.cell (by rw [add_blockN]; exact h1) (by rw [add_blockN]; exact hne)]
  exact h3
theorem nodes_kept {A : Option Addr} {xs : List Nd} (h : Nodes w w.heap.size A xs) (hA : ∀ ad, A = some ad → ad.block ≠ g) (k : Kept (· = g) w w') : Nodes w' w'.heap.size A xs := by
  intro i x hx
  obtain ⟨ad, h0, h1, h3, h4⟩ := h i x hx
  have hne := hA ad h0
  refine ⟨ad, h0, Nat.lt_of_lt_of_le h1 k.size, ?_, ?_⟩
  · rw [k.cell (by rw [add_blockN]; exact h1) (by rw [add_blockN]; exact hne)]
    exact h3
  · rw [k.cell (by show (ad.add (i * 2)).block < _; rw [add_blockN]; exact h1) (by show ¬ (ad.add (i * 2)).block = g; rw [add_blockN]; exact hne)]
    exact h4
/-- The state behind the variables. -/
def vstate (S : ByteArray) (s : Int × Int) : List Int × (Int × Int) := pv S (askP S s 2 12).1 (askP S s 2 12).2.toNat
/-- What reading variables comes to. -/
def VarsEnds (g : Nat) (S : ByteArray) (W : World) (s : Int × Int) (w : World) (e : Ending) (w' : World) : Prop :=
  Rs g S W (vstate S s).2 w' ∧ ∃ A c, e = .returned (.slice A (vstate S s).1.length c) ∧ (vstate S s).1.length ≤ c ∧ (A = none → c = 0) ∧ IRow w' w'.heap.size A (vstate S s).1 ∧ ∀ ad, A = some ad → w.heap.size ≤ ad.block
end

end Go.Proofs.Ytlecofghifjmcaa.Code

namespace Go.Proofs.Ytlecofghifjmcaa.Code
open Go.RowKit Leb Mem Wire _root_.Go.Proofs.Ytlecofghifjmcaa.Arena _root_.Go.Proofs.Ytlecofghifjmcaa.Kinds
set_option linter.unusedVariables false
attribute [local go_sem ↓] Go.wp_at_zero Go.wp_at_succ

section
variable {g : Nat} {S : ByteArray} {W w w' : World} {s : Int × Int}
/-- What reading nodes comes to. -/
def BodyEnds (g : Nat) (S : ByteArray) (W : World) (s : Int × Int) (w : World) (e : Ending) (w' : World) : Prop :=
  ∃ (k : Nat) (t : Int × Int), Rs g S W t w' ∧ ((k : Int) ≤ (askP S s 2 200).2 ∧ ((k : Int) = (askP S s 2 200).2 ∨ stops S (pb S (askP S s 2 200).1 (k + 1)).2)) ∧
    ∃ A c, e = .returned (.slice A (pb S (askP S s 2 200).1 k).1.length c) ∧ (pb S (askP S s 2 200).1 k).1.length ≤ c ∧ (A = none → c = 0) ∧ Nodes w' w'.heap.size A (pb S (askP S s 2 200).1 k).1 ∧ ∀ ad, A = some ad → w.heap.size ≤ ad.block
end

end Go.Proofs.Ytlecofghifjmcaa.Code

namespace Go.Proofs.Ytlecofghifjmcaa.Code
open Go.RowKit Leb Mem Wire _root_.Go.Proofs.Ytlecofghifjmcaa.Arena _root_.Go.Proofs.Ytlecofghifjmcaa.Kinds
set_option linter.unusedVariables false
attribute [local go_sem ↓] Go.wp_at_zero Go.wp_at_succ

section
variable {g : Nat} {S : ByteArray} {W w w' : World} {s : Int × Int}
/-- What reading a program comes to. -/
def ProgEnds (g : Nat) (S : ByteArray) (w : World) (e : Ending) (w' : World) : Prop :=
  ∃ (k : Nat) (A : Option Addr) (c : Nat) (B : Option Addr) (ce : Nat), ReadTo S k ∧ e = .returned (.agg #[.int .i64 (st1 S).2, .slice A (st3 S).1.length c, .slice B (pb S (st4 S).1 k).1.length ce]) ∧
    Prg.Ok ⟨(st1 S).2, A, c, (st3 S).1, B, ce, (pb S (st4 S).1 k).1⟩ w' ∧ Kept (· = g) w w' ∧ (∀ ad, A = some ad → w.heap.size ≤ ad.block) ∧ (∀ ad, B = some ad → w.heap.size ≤ ad.block)
theorem kept_set (w : World) (p : Addr) (v : Value) : Kept (· = p.block) w (w.setCell p v) := (Kept.refl (fun x => x = p.block) w).setCell (.inl rfl) v
theorem row_set {A : Option Addr} {ks : List Int} (h : IRow w w.heap.size A ks) (p : Addr) (v : Value) (hA : ∀ ad, A = some ad → ad.block ≠ p.block) : IRow (w.setCell p v) (w.setCell p v).heap.size A ks := row_kept h hA (kept_set w p v)
theorem nodes_set {A : Option Addr} {xs : List Nd} (h : Nodes w w.heap.size A xs) (p : Addr) (v : Value) (hA : ∀ ad, A = some ad → ad.block ≠ p.block) : Nodes (w.setCell p v) (w.setCell p v).heap.size A xs := nodes_kept h hA (kept_set w p v)
end

end Go.Proofs.Ytlecofghifjmcaa.Code

namespace Go.Proofs.Ytlecofghifjmcaa.Code
open Go.RowKit Leb Mem Wire _root_.Go.Proofs.Ytlecofghifjmcaa.Arena _root_.Go.Proofs.Ytlecofghifjmcaa.Kinds
set_option linter.unusedVariables false
attribute [local go_sem ↓] Go.wp_at_zero Go.wp_at_succ

theorem zero_ok (w : World) : Prg.Ok ⟨0, none, 0, [], none, 0, []⟩ w := ⟨fun i x h => by simp at h, fun i x h => by simp at h, by decide, by decide, by decide, by decide, fun _ => rfl, fun _ => rfl⟩
end Go.Proofs.Ytlecofghifjmcaa.Code
