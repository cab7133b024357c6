/-
  The document's own text for what is read, walked.
-/
import Derived.Test.YtlecofghifjmcaaWireOps
import Derived.Test.YtlecofghifjmcaaLebG
import Derived.RegionTactic
import Derived.BigRegion
import Derived.StillTailTactics
namespace Go.Proofs.Ytlecofghifjmcaa.Wire
open Go.RowKit Leb Mem

/-- A reader of the document's, as a value. -/
def rdV (S : ByteArray) (p er : Int) : Value := .agg #[.string S, .int .i64 p, .int .i64 er]

/-- What the document's calls end in. -/
def TwoEnds (S : ByteArray) (f : Out) (w : World) (e : Ending) (w' : World) : Prop :=
  e = .returned (.tuple #[.agg #[.string S, .int .i64 f.to, .int .i64 f.er], .agg #[.int .u64 f.num, .int .i64 f.int, .string (strB f.text), .int .i64 0, .int .i64 0]]) ∧ Below w.heap.size w w'
theorem TwoEnds.mk {S : ByteArray} {f : Out} {w w' : World} {p er num int : Int} {t : ByteArray} {x : List UInt8} (h : f = ⟨num, int, x, p, er⟩) (ht : t = strB x) (hb : Below w.heap.size w w') :
    TwoEnds S f w (.returned (.tuple #[.agg #[.string S, .int .i64 p, .int .i64 er], .agg #[.int .u64 num, .int .i64 int, .string t, .int .i64 0, .int .i64 0]])) w' := by
  subst h; subst ht; exact ⟨rfl, hb⟩

theorem ref_wrong_any (S : ByteArray) (p er x : Int) (w : World) : Calls Try.prog 57 #[.agg #[.string S, .int .i64 p, .int .i64 er], .int .i64 x] w (TwoEnds S ⟨0, 0, [], p, x⟩ w) := by
  go_enter Try.func57, Try.ntmps57
  go_wp2
  refine bodyPost_ret (v := .tuple #[.agg #[.string S, .int .i64 p, .int .i64 x], .agg #[.int .u64 0, .int .i64 0, .string ⟨#[]⟩, .int .i64 0, .int .i64 0]]) (by simp [results, Try.results57, go_sem]) rfl ?_
  exact TwoEnds.mk rfl rfl ((((Below.refl _ w).alloc (Nat.le_refl _) _).alloc (by simp) _).alloc (by simp; omega) _)

theorem TwoEnds.to {S : ByteArray} {f : Out} {w w' : World} {e : Ending} (h : TwoEnds S f w e w') : e = .returned (.tuple #[.agg #[.string S, .int .i64 f.to, .int .i64 f.er], .agg #[.int .u64 f.num, .int .i64 f.int, .string (strB f.text), .int .i64 0, .int .i64 0]]) ∧ Below w.heap.size w w' := h

/-- The places of what is returned, as they are made. -/
structure Res (W : World) (i j : Nat) : Prop where
  A : Blk W i 58 #[.string ⟨#[]⟩, .int .i64 0, .int .i64 0]
  B : Blk W j 80 z5
theorem Res.below {W W' : World} {i j : Nat} (h : Res W i j) (hb : Below W.heap.size W W') : Res W' i j := ⟨h.A.below hb h.A.lt, h.B.below hb h.B.lt⟩
theorem Res.alloc {W : World} {i j : Nat} (h : Res W i j) (o : Obj) : Res (W.alloc o) i j := ⟨h.A.alloc o, h.B.alloc o⟩
theorem Res.apart {W : World} {i j : Nat} (h : Res W i j) {p : Addr} (h1 : i ≠ p.block) (h2 : j ≠ p.block) (v : Value) : Res (W.setCell p v) i j := ⟨h.A.apart h1 v, h.B.apart h2 v⟩
theorem Res.new (W : World) : Res ((W.alloc (.cells #[.string ⟨#[]⟩, .int .i64 0, .int .i64 0] 58)).alloc (.cells z5 80)) W.heap.size (W.heap.size + 1) :=
  ⟨(Blk.new _ _ _).alloc _, by have := Blk.new (W.alloc (.cells #[.string ⟨#[]⟩, .int .i64 0, .int .i64 0] 58)) 80 z5; simpa using this⟩
theorem Res.facts {W : World} {i j : Nat} (h : Res W i j) : (W.cell? ⟨i, 0, none⟩ = some (.string ⟨#[]⟩) ∧ W.cell? ⟨i, 1, none⟩ = some (.int .i64 0) ∧ W.cell? ⟨i, 2, none⟩ = some (.int .i64 0)) ∧
    (W.cell? ⟨j, 0, none⟩ = some (.int .u64 0) ∧ W.cell? ⟨j, 1, none⟩ = some (.int .i64 0) ∧ W.cell? ⟨j, 2, none⟩ = some (.string ⟨#[]⟩) ∧ W.cell? ⟨j, 3, none⟩ = some (.int .i64 0) ∧ W.cell? ⟨j, 4, none⟩ = some (.int .i64 0)) ∧
    (∀ k, W.frozen? ⟨i, k, none⟩ = false) ∧ ∀ k, W.frozen? ⟨j, k, none⟩ = false :=
  ⟨h.A.three, five h.B, h.A.frozen, h.B.frozen⟩

/-- What is told is stored. -/
theorem below_sets {B : Nat} {a W : World} (h : Below B a W) {i j : Nat} (hi : B ≤ i) (hj : B ≤ j) (v0 v1 v2 u0 u1 u2 u3 u4 : Value) :
    Below B a ((((((((W.setCell ⟨i, 0, none⟩ v0).setCell ⟨i, 1, none⟩ v1).setCell ⟨i, 2, none⟩ v2).setCell ⟨j, 0, none⟩ u0).setCell ⟨j, 1, none⟩ u1).setCell ⟨j, 2, none⟩ u2).setCell ⟨j, 3, none⟩ u3).setCell ⟨j, 4, none⟩ u4) :=
  (((((((h.setCell (p := ⟨i, 0, none⟩) hi v0).setCell (p := ⟨i, 1, none⟩) hi v1).setCell (p := ⟨i, 2, none⟩) hi v2).setCell (p := ⟨j, 0, none⟩) hj u0).setCell (p := ⟨j, 1, none⟩) hj u1).setCell (p := ⟨j, 2, none⟩) hj u2).setCell (p := ⟨j, 3, none⟩) hj u3).setCell (p := ⟨j, 4, none⟩) hj u4

set_option maxRecDepth 100000 in
set_option maxHeartbeats 1000000 in
theorem ref_text_no (S : ByteArray) (p er : Int) (b n : Nat) (hs : S.size ≤ 1073741824) (hb : b ≤ S.size) (h : (S.size : Int) - b < n) (w : World) :
    Calls Try.prog 58 #[.agg #[.string S, .int .i64 p, .int .i64 er], .int .i64 b, .int .u64 n] w (TwoEnds S ⟨0, 0, [], p, 2⟩ w) := by
  have hu : IntKind.u64.wrap ((S.size : Int) - b) = (S.size : Int) - b := by rw [IntKind.wrap_u64]; omega
  have hR := Res.new (w.alloc (.cells #[.string S, .int .i64 p, .int .i64 er] 58))
  rw [World.size_alloc] at hR
  have hB0 : Below w.heap.size w (((w.alloc (.cells #[.string S, .int .i64 p, .int .i64 er] 58)).alloc (.cells #[.string ⟨#[]⟩, .int .i64 0, .int .i64 0] 58)).alloc (.cells z5 80)) := ((((Below.refl _ w).alloc (Nat.le_refl _) _).alloc (by simp) _).alloc (by simp; omega) _)
  go_enter Try.func58, Try.ntmps58
  go_wp2_with fail
  refine (ref_wrong_any S p er 2 _).mono ?_
  intro e w1 hq
  obtain ⟨he, hb1⟩ := hq
  subst he
  have hR1 := hR.below hb1
  have hB1 := hB0.trans (hb1.mono hB0.size)
  obtain ⟨⟨x0, x1, x2⟩, ⟨y0, y1, y2, y3, y4⟩, f6, f7⟩ := hR1.facts
  clear hb1 hR hB0 hR1
  go_wp2_with fail
  refine bodyPost_ret (v := .tuple #[.agg #[.string S, .int .i64 p, .int .i64 2], .agg #[.int .u64 0, .int .i64 0, .string (strB []), .int .i64 0, .int .i64 0]]) (by simp [results, Try.results58, go_sem, x0, x1, x2, y0, y1, y2, y3, y4]) rfl ?_
  exact TwoEnds.mk rfl rfl (below_sets hB1 (by omega) (by omega) _ _ _ _ _ _ _ _)

set_option maxRecDepth 100000 in
set_option maxHeartbeats 1000000 in
theorem ref_text_ok (S : ByteArray) (p er : Int) (b n : Nat) (hs : S.size ≤ 1073741824) (hb : b ≤ S.size) (h : b + n ≤ S.size) (w : World) :
    Calls Try.prog 58 #[.agg #[.string S, .int .i64 p, .int .i64 er], .int .i64 b, .int .u64 n] w (TwoEnds S ⟨0, 0, (S.data.toList.drop b).take n, (b : Int) + n, er⟩ w) := by
  have hu : IntKind.u64.wrap ((S.size : Int) - b) = (S.size : Int) - b := by rw [IntKind.wrap_u64]; omega
  have hi : IntKind.i64.wrap (n : Int) = n := wrap_i64_of (by omega) (by omega)
  have hn : ((S.size : Int) - b < n) = False := by simp; omega
  have HX := Lib.hid (extract_strB S b (b + n))
  have b1 : (0 : Int) ≤ (b : Int) := by omega
  have b2 : (b : Int) ≤ (b : Int) + (n : Int) := by omega
  have b3 : (b : Int) + (n : Int) ≤ (S.size : Int) := by omega
  have e2 : ((b : Int) + (n : Int)).toNat = b + n := by omega
  have h9 : (n : Int) ≤ (S.size : Int) - (b : Int) := by omega
  go_enter Try.func58, Try.ntmps58
  go_wp2_with fail
  go_region
  all_goals go_wp2
  all_goals refine bodyPost_ret (v := .tuple #[.agg #[.string S, .int .i64 ((b : Int) + n), .int .i64 er], .agg #[.int .u64 0, .int .i64 0, .string (S.extract b (b + n)), .int .i64 0, .int .i64 0]]) (by simp [results, Try.results58, go_sem]) rfl ?_
  all_goals refine TwoEnds.mk rfl (HX.out.trans (by rw [Nat.add_sub_cancel_left])) ?_
  all_goals exact (((((Below.refl _ w).alloc (Nat.le_refl _) _).alloc (by simp) _).alloc (by simp; omega) _).alloc (by simp; omega) _).drew

/-- The places of the document's Do, as they are made. -/
structure DoFr (w W : World) (S : ByteArray) (p er k n : Int) : Prop where
  R : Blk W w.heap.size 58 #[.string S, .int .i64 p, .int .i64 er]
  O : Blk W (w.heap.size + 1) 84 #[.int .i64 k, .int .i64 n]
  Z : Res W (w.heap.size + 1 + 1) (w.heap.size + 1 + 1 + 1)
  B : Below w.heap.size w W
/-- The world behind the entry. -/
def w0 (w : World) (S : ByteArray) (p er k n : Int) : World := (((w.alloc (.cells #[.string S, .int .i64 p, .int .i64 er] 58)).alloc (.cells #[.int .i64 k, .int .i64 n] 84)).alloc (.cells #[.string ⟨#[]⟩, .int .i64 0, .int .i64 0] 58)).alloc (.cells z5 80)
theorem DoFr.new (w : World) (S : ByteArray) (p er k n : Int) : DoFr w (w0 w S p er k n) S p er k n where
  R := (((Blk.new w _ _).alloc _).alloc _).alloc _
  O := by
    have := (((Blk.new (w.alloc (.cells #[.string S, .int .i64 p, .int .i64 er] 58)) 84 #[.int .i64 k, .int .i64 n])).alloc (.cells #[.string ⟨#[]⟩, .int .i64 0, .int .i64 0] 58)).alloc (.cells z5 80)
    rw [World.size_alloc] at this
    exact this
  Z := by
    have := Res.new ((w.alloc (.cells #[.string S, .int .i64 p, .int .i64 er] 58)).alloc (.cells #[.int .i64 k, .int .i64 n] 84))
    rw [World.size_alloc, World.size_alloc] at this
    exact this
  B := ((((Below.refl _ w).alloc (Nat.le_refl _) _).alloc (by simp) _).alloc (by simp; omega) _).alloc (by simp; omega) _
theorem DoFr.below {w W W' : World} {S : ByteArray} {p er k n : Int} (h : DoFr w W S p er k n) (hb : Below W.heap.size W W') : DoFr w W' S p er k n :=
  ⟨h.R.below hb h.R.lt, h.O.below hb h.O.lt, h.Z.below hb, h.B.trans (hb.mono h.B.size)⟩

theorem neq_facts {x : Int} (h : x ≠ 0) : (x == 0) = false ∧ (x != 0) = true := by constructor <;> simpa using h

set_option maxRecDepth 100000 in
set_option maxHeartbeats 1000000 in
theorem ref_Do_was (S : ByteArray) (p er k n : Int) (h : er ≠ 0) (w : World) :
    Calls Try.prog 51 #[.agg #[.string S, .int .i64 p, .int .i64 er], .agg #[.int .i64 k, .int .i64 n]] w (TwoEnds S ⟨0, 0, [], p, er⟩ w) := by
  obtain ⟨e0, e1⟩ := neq_facts h
  clear h
  go_enter Try.func51, Try.ntmps51
  go_wp2_with fail
  refine bodyPost_ret (v := .tuple #[.agg #[.string S, .int .i64 p, .int .i64 er], .agg #[.int .u64 0, .int .i64 0, .string ⟨#[]⟩, .int .i64 0, .int .i64 0]]) (by simp [results, Try.results51, go_sem]) rfl ?_
  exact TwoEnds.mk rfl rfl (((((Below.refl _ w).alloc (Nat.le_refl _) _).alloc (by simp) _).alloc (by simp; omega) _).alloc (by simp; omega) _)

set_option maxRecDepth 100000 in
set_option maxHeartbeats 1000000 in
theorem ref_Do_0no (S : ByteArray) (n : Int) (w : World) :
    Calls Try.prog 51 #[.agg #[.string S, .int .i64 S.size, .int .i64 0], .agg #[.int .i64 0, .int .i64 n]] w (TwoEnds S ⟨0, 0, [], S.size, 2⟩ w) := by
  have hF := DoFr.new w S S.size 0 0 n
  go_enter Try.func51, Try.ntmps51
  go_wp2_with fail
  refine (ref_wrong_any S S.size 0 2 (w0 w S S.size 0 0 n)).mono ?_
  intro e w1 hq
  obtain ⟨he, hb1⟩ := hq
  subst he
  have hF := hF.below hb1
  obtain ⟨⟨x0, x1, x2⟩, ⟨y0, y1, y2, y3, y4⟩, f6, f7⟩ := hF.Z.facts
  have hB := hF.B
  clear hb1 hF
  go_wp2_with fail
  refine bodyPost_ret (v := .tuple #[.agg #[.string S, .int .i64 S.size, .int .i64 2], .agg #[.int .u64 0, .int .i64 0, .string (strB []), .int .i64 0, .int .i64 0]]) (by simp [results, Try.results51, go_sem, x0, x1, x2, y0, y1, y2, y3, y4]) rfl ?_
  exact TwoEnds.mk rfl rfl (below_sets hB (by omega) (by omega) _ _ _ _ _ _ _ _)

set_option maxRecDepth 100000 in
set_option maxHeartbeats 1000000 in
theorem ref_Do_0ok (S : ByteArray) (p : Nat) (hs : S.size ≤ 1073741824) (hp : p < S.size) (n : Int) (w : World) :
    Calls Try.prog 51 #[.agg #[.string S, .int .i64 p, .int .i64 0], .agg #[.int .i64 0, .int .i64 n]] w (TwoEnds S ⟨S[p].toNat, 0, [], (p : Int) + 1, 0⟩ w) := by
  have h0 : (p : Int) < (S.size : Int) := by omega
  have b1 : (0 : Int) ≤ (p : Int) := by omega
  have hb := byte_le S[p]
  have hu := u64_same hb.1 (by omega)
  have hw : IntKind.i64.wrap ((p : Int) + 1) = (p : Int) + 1 := IntWalk.i64_in _ (by omega)
  have hw2 : IntKind.i64.wrap ((p : Int) + 1 - 1) = (p : Int) := by rw [show (p : Int) + 1 - 1 = p by omega]; exact IntWalk.i64_in _ (by omega)
  have hw3 : (p : Int) + 1 - 1 = (p : Int) := by omega
  go_enter Try.func51, Try.ntmps51
  go_wp2_with fail
  go_region
  all_goals go_wp2
  all_goals refine bodyPost_ret (v := .tuple #[.agg #[.string S, .int .i64 ((p : Int) + 1), .int .i64 0], .agg #[.int .u64 S[p].toNat, .int .i64 0, .string ⟨#[]⟩, .int .i64 0, .int .i64 0]]) (by simp [results, Try.results51, go_sem]) rfl ?_
  all_goals refine TwoEnds.mk rfl rfl ?_
  all_goals exact (((((Below.refl _ w).alloc (Nat.le_refl _) _).alloc (by simp) _).alloc (by simp; omega) _).alloc (by simp; omega) _).drew

set_option maxRecDepth 100000 in
set_option maxHeartbeats 1000000 in
theorem ref_Do_5arg (S : ByteArray) (p : Nat) (n : Int) (w : World) (h : n < 0) :
    Calls Try.prog 51 #[.agg #[.string S, .int .i64 p, .int .i64 0], .agg #[.int .i64 5, .int .i64 n]] w (TwoEnds S ⟨0, 0, [], p, 1⟩ w) := by
  have hF := DoFr.new w S p 0 5 n
  go_enter Try.func51, Try.ntmps51
  go_wp2_with fail
  refine (ref_wrong_any S p 0 1 (w0 w S p 0 5 n)).mono ?_
  intro e w2 hq
  obtain ⟨he, hb2⟩ := hq
  subst he
  have hF := hF.below hb2
  obtain ⟨⟨x0, x1, x2⟩, ⟨y0, y1, y2, y3, y4⟩, f6, f7⟩ := hF.Z.facts
  have hB := hF.B
  clear hb2 hF
  go_wp2_with fail
  refine bodyPost_ret (v := .tuple #[.agg #[.string S, .int .i64 p, .int .i64 1], .agg #[.int .u64 0, .int .i64 0, .string (strB []), .int .i64 0, .int .i64 0]]) (by simp [results, Try.results51, go_sem, x0, x1, x2, y0, y1, y2, y3, y4]) rfl ?_
  exact TwoEnds.mk rfl rfl (below_sets hB (by omega) (by omega) _ _ _ _ _ _ _ _)

set_option maxRecDepth 100000 in
set_option maxHeartbeats 1000000 in
theorem ref_Do_5 (S : ByteArray) (p : Nat) (f : Out) (n : Int) (w : World) (h : 0 ≤ n) (h1 : n ≤ 9223372036854775807) (hC : ∀ W, Calls Try.prog 58 #[.agg #[.string S, .int .i64 p, .int .i64 0], .int .i64 p, .int .u64 n] W (TwoEnds S f W)) :
    Calls Try.prog 51 #[.agg #[.string S, .int .i64 p, .int .i64 0], .agg #[.int .i64 5, .int .i64 n]] w (TwoEnds S f w) := by
  have hF := DoFr.new w S p 0 5 n
  have hu := wrap_u64_of h h1
  have HC := Lib.hid hC
  clear hC
  go_enter Try.func51, Try.ntmps51
  go_wp2_with fail
  refine (HC.out (w0 w S p 0 5 n)).mono ?_
  intro e w2 hq
  obtain ⟨he, hb2⟩ := hq
  subst he
  have hF := hF.below hb2
  obtain ⟨⟨x0, x1, x2⟩, ⟨y0, y1, y2, y3, y4⟩, f6, f7⟩ := hF.Z.facts
  have hB := hF.B
  clear hb2 hF
  go_wp2_with fail
  refine bodyPost_ret (v := .tuple #[.agg #[.string S, .int .i64 f.to, .int .i64 f.er], .agg #[.int .u64 f.num, .int .i64 f.int, .string (strB f.text), .int .i64 0, .int .i64 0]]) (by simp [results, Try.results51, go_sem, x0, x1, x2, y0, y1, y2, y3, y4]) rfl ?_
  exact ⟨rfl, below_sets hB (by omega) (by omega) _ _ _ _ _ _ _ _⟩

set_option maxRecDepth 100000 in
set_option maxHeartbeats 1000000 in
theorem ref_Do_err (S : ByteArray) (p : Nat) (k : Int) (m : Nat) (b c : Int) (hs : S.size ≤ 1073741824) (k0 : k ≠ 0) (k5 : k ≠ 5) (hl : lget S.data.toList p = (m, b, c)) (hc : c ≠ 0) (n : Int) (w : World) :
    Calls Try.prog 51 #[.agg #[.string S, .int .i64 p, .int .i64 0], .agg #[.int .i64 k, .int .i64 n]] w (TwoEnds S ⟨0, 0, [], p, c⟩ w) := by
  have hF := DoFr.new w S p 0 k n
  have HG := Lib.hid (fun W => ref_get_any S p hs W)
  have HL := Lib.hid hl
  clear hl
  obtain ⟨i0, -⟩ := neq_facts k0
  have i5 : (k == 5) = false := by simpa using k5
  clear k0 k5
  obtain ⟨e0, e1⟩ := neq_facts hc
  clear hc
  go_enter Try.func51, Try.ntmps51
  go_wp2_with fail
  refine (HG.out (w0 w S p 0 k n)).mono ?_
  intro e w1 hq
  obtain ⟨rfl, hb1⟩ := hq.to HL.out
  have hF := hF.below hb1
  obtain ⟨r0, r1, r2⟩ := hF.R.three
  obtain ⟨o0, o1⟩ := hF.O.two
  obtain ⟨⟨x0, x1, x2⟩, ⟨y0, y1, y2, y3, y4⟩, f6, f7⟩ := hF.Z.facts
  have fR := hF.R.frozen
  clear hb1 hq HG
  go_wp2_with fail
  clear r0 r1 r2 o0 o1 x0 x1 x2 y0 y1 y2 y3 y4 f6 f7 fR
  refine (ref_wrong_any S p 0 c w1).mono ?_
  intro e w2 hq
  obtain ⟨he, hb2⟩ := hq
  subst he
  have hF := hF.below hb2
  obtain ⟨⟨x0, x1, x2⟩, ⟨y0, y1, y2, y3, y4⟩, f6, f7⟩ := hF.Z.facts
  have hB := hF.B
  clear hb2 hF
  go_wp2_with fail
  refine bodyPost_ret (v := .tuple #[.agg #[.string S, .int .i64 p, .int .i64 c], .agg #[.int .u64 0, .int .i64 0, .string (strB []), .int .i64 0, .int .i64 0]]) (by simp [results, Try.results51, go_sem, x0, x1, x2, y0, y1, y2, y3, y4]) rfl ?_
  exact TwoEnds.mk rfl rfl (below_sets hB (by omega) (by omega) _ _ _ _ _ _ _ _)

set_option maxRecDepth 100000 in
set_option maxHeartbeats 1000000 in
theorem ref_Do_large2 (S : ByteArray) (p : Nat) (m : Nat) (b : Int) (hs : S.size ≤ 1073741824) (hl : lget S.data.toList p = (m, b, 0)) (n : Int) (w : World) (h1 : n ≤ 9223372036854775807) (h : n < 0 ∨ n < m) :
    Calls Try.prog 51 #[.agg #[.string S, .int .i64 p, .int .i64 0], .agg #[.int .i64 2, .int .i64 n]] w (TwoEnds S ⟨0, 0, [], p, 4⟩ w) := by
  have hF := DoFr.new w S p 0 2 n
  have HG := Lib.hid (fun W => ref_get_any S p hs W)
  have HL := Lib.hid hl
  clear hl
  by_cases hn : n < 0
  · clear h
    go_enter Try.func51, Try.ntmps51
    go_wp2_with fail
    refine (HG.out (w0 w S p 0 2 n)).mono ?_
    intro e w1 hq
    obtain ⟨rfl, hb1⟩ := hq.to HL.out
    have hF := hF.below hb1
    obtain ⟨r0, r1, r2⟩ := hF.R.three
    obtain ⟨o0, o1⟩ := hF.O.two
    obtain ⟨⟨x0, x1, x2⟩, ⟨y0, y1, y2, y3, y4⟩, f6, f7⟩ := hF.Z.facts
    have fR := hF.R.frozen
    clear hb1 hq HG
    go_wp2_with fail
    clear r0 r1 r2 o0 o1 x0 x1 x2 y0 y1 y2 y3 y4 f6 f7 fR
    refine (ref_wrong_any S p 0 4 w1).mono ?_
    intro e w2 hq
    obtain ⟨he, hb2⟩ := hq
    subst he
    have hF := hF.below hb2
    obtain ⟨⟨x0, x1, x2⟩, ⟨y0, y1, y2, y3, y4⟩, f6, f7⟩ := hF.Z.facts
    have hB := hF.B
    clear hb2 hF
    go_wp2_with fail
    refine bodyPost_ret (v := .tuple #[.agg #[.string S, .int .i64 p, .int .i64 4], .agg #[.int .u64 0, .int .i64 0, .string (strB []), .int .i64 0, .int .i64 0]]) (by simp [results, Try.results51, go_sem, x0, x1, x2, y0, y1, y2, y3, y4]) rfl ?_
    exact TwoEnds.mk rfl rfl (below_sets hB (by omega) (by omega) _ _ _ _ _ _ _ _)
  · have hn2 : n < m := by omega
    have hu := wrap_u64_of (n := n) (by omega) h1
    clear h
    go_enter Try.func51, Try.ntmps51
    go_wp2_with fail
    refine (HG.out (w0 w S p 0 2 n)).mono ?_
    intro e w1 hq
    obtain ⟨rfl, hb1⟩ := hq.to HL.out
    have hF := hF.below hb1
    obtain ⟨r0, r1, r2⟩ := hF.R.three
    obtain ⟨o0, o1⟩ := hF.O.two
    obtain ⟨⟨x0, x1, x2⟩, ⟨y0, y1, y2, y3, y4⟩, f6, f7⟩ := hF.Z.facts
    have fR := hF.R.frozen
    clear hb1 hq HG
    go_wp2_with fail
    clear r0 r1 r2 o0 o1 x0 x1 x2 y0 y1 y2 y3 y4 f6 f7 fR
    refine (ref_wrong_any S p 0 4 w1).mono ?_
    intro e w2 hq
    obtain ⟨he, hb2⟩ := hq
    subst he
    have hF := hF.below hb2
    obtain ⟨⟨x0, x1, x2⟩, ⟨y0, y1, y2, y3, y4⟩, f6, f7⟩ := hF.Z.facts
    have hB := hF.B
    clear hb2 hF
    go_wp2_with fail
    refine bodyPost_ret (v := .tuple #[.agg #[.string S, .int .i64 p, .int .i64 4], .agg #[.int .u64 0, .int .i64 0, .string (strB []), .int .i64 0, .int .i64 0]]) (by simp [results, Try.results51, go_sem, x0, x1, x2, y0, y1, y2, y3, y4]) rfl ?_
    exact TwoEnds.mk rfl rfl (below_sets hB (by omega) (by omega) _ _ _ _ _ _ _ _)

set_option maxRecDepth 100000 in
set_option maxHeartbeats 1000000 in
theorem ref_Do_large4 (S : ByteArray) (p : Nat) (m : Nat) (b : Int) (hs : S.size ≤ 1073741824) (hl : lget S.data.toList p = (m, b, 0)) (n : Int) (w : World) (h1 : n ≤ 9223372036854775807) (h : n < 0 ∨ n < m) :
    Calls Try.prog 51 #[.agg #[.string S, .int .i64 p, .int .i64 0], .agg #[.int .i64 4, .int .i64 n]] w (TwoEnds S ⟨0, 0, [], p, 4⟩ w) := by
  have hF := DoFr.new w S p 0 4 n
  have HG := Lib.hid (fun W => ref_get_any S p hs W)
  have HL := Lib.hid hl
  clear hl
  by_cases hn : n < 0
  · clear h
    go_enter Try.func51, Try.ntmps51
    go_wp2_with fail
    refine (HG.out (w0 w S p 0 4 n)).mono ?_
    intro e w1 hq
    obtain ⟨rfl, hb1⟩ := hq.to HL.out
    have hF := hF.below hb1
    obtain ⟨r0, r1, r2⟩ := hF.R.three
    obtain ⟨o0, o1⟩ := hF.O.two
    obtain ⟨⟨x0, x1, x2⟩, ⟨y0, y1, y2, y3, y4⟩, f6, f7⟩ := hF.Z.facts
    have fR := hF.R.frozen
    clear hb1 hq HG
    go_wp2_with fail
    clear r0 r1 r2 o0 o1 x0 x1 x2 y0 y1 y2 y3 y4 f6 f7 fR
    refine (ref_wrong_any S p 0 4 w1).mono ?_
    intro e w2 hq
    obtain ⟨he, hb2⟩ := hq
    subst he
    have hF := hF.below hb2
    obtain ⟨⟨x0, x1, x2⟩, ⟨y0, y1, y2, y3, y4⟩, f6, f7⟩ := hF.Z.facts
    have hB := hF.B
    clear hb2 hF
    go_wp2_with fail
    refine bodyPost_ret (v := .tuple #[.agg #[.string S, .int .i64 p, .int .i64 4], .agg #[.int .u64 0, .int .i64 0, .string (strB []), .int .i64 0, .int .i64 0]]) (by simp [results, Try.results51, go_sem, x0, x1, x2, y0, y1, y2, y3, y4]) rfl ?_
    exact TwoEnds.mk rfl rfl (below_sets hB (by omega) (by omega) _ _ _ _ _ _ _ _)
  · have hn2 : n < m := by omega
    have hu := wrap_u64_of (n := n) (by omega) h1
    clear h
    go_enter Try.func51, Try.ntmps51
    go_wp2_with fail
    refine (HG.out (w0 w S p 0 4 n)).mono ?_
    intro e w1 hq
    obtain ⟨rfl, hb1⟩ := hq.to HL.out
    have hF := hF.below hb1
    obtain ⟨r0, r1, r2⟩ := hF.R.three
    obtain ⟨o0, o1⟩ := hF.O.two
    obtain ⟨⟨x0, x1, x2⟩, ⟨y0, y1, y2, y3, y4⟩, f6, f7⟩ := hF.Z.facts
    have fR := hF.R.frozen
    clear hb1 hq HG
    go_wp2_with fail
    clear r0 r1 r2 o0 o1 x0 x1 x2 y0 y1 y2 y3 y4 f6 f7 fR
    refine (ref_wrong_any S p 0 4 w1).mono ?_
    intro e w2 hq
    obtain ⟨he, hb2⟩ := hq
    subst he
    have hF := hF.below hb2
    obtain ⟨⟨x0, x1, x2⟩, ⟨y0, y1, y2, y3, y4⟩, f6, f7⟩ := hF.Z.facts
    have hB := hF.B
    clear hb2 hF
    go_wp2_with fail
    refine bodyPost_ret (v := .tuple #[.agg #[.string S, .int .i64 p, .int .i64 4], .agg #[.int .u64 0, .int .i64 0, .string (strB []), .int .i64 0, .int .i64 0]]) (by simp [results, Try.results51, go_sem, x0, x1, x2, y0, y1, y2, y3, y4]) rfl ?_
    exact TwoEnds.mk rfl rfl (below_sets hB (by omega) (by omega) _ _ _ _ _ _ _ _)

set_option maxRecDepth 100000 in
set_option maxHeartbeats 1000000 in
theorem ref_Do_4 (S : ByteArray) (p : Nat) (f : Out) (m : Nat) (b : Int) (hs : S.size ≤ 1073741824) (hl : lget S.data.toList p = (m, b, 0)) (n : Int) (w : World) (h0 : 0 ≤ n) (h1 : n ≤ 9223372036854775807) (h : (m : Int) ≤ n) (hC : ∀ W, Calls Try.prog 58 #[.agg #[.string S, .int .i64 p, .int .i64 0], .int .i64 b, .int .u64 m] W (TwoEnds S f W)) :
    Calls Try.prog 51 #[.agg #[.string S, .int .i64 p, .int .i64 0], .agg #[.int .i64 4, .int .i64 n]] w (TwoEnds S f w) := by
  have hF := DoFr.new w S p 0 4 n
  have HG := Lib.hid (fun W => ref_get_any S p hs W)
  have HL := Lib.hid hl
  clear hl
  have hu := wrap_u64_of (n := n) (by omega) h1
  have HC := Lib.hid hC
  clear hC
  go_enter Try.func51, Try.ntmps51
  go_wp2_with fail
  refine (HG.out (w0 w S p 0 4 n)).mono ?_
  intro e w1 hq
  obtain ⟨rfl, hb1⟩ := hq.to HL.out
  have hF := hF.below hb1
  obtain ⟨r0, r1, r2⟩ := hF.R.three
  obtain ⟨o0, o1⟩ := hF.O.two
  obtain ⟨⟨x0, x1, x2⟩, ⟨y0, y1, y2, y3, y4⟩, f6, f7⟩ := hF.Z.facts
  have fR := hF.R.frozen
  clear hb1 hq HG
  go_wp2_with fail
  clear r0 r1 r2 o0 o1 x0 x1 x2 y0 y1 y2 y3 y4 f6 f7 fR
  refine (HC.out w1).mono ?_
  intro e w2 hq
  obtain ⟨he, hb2⟩ := hq
  subst he
  have hF := hF.below hb2
  obtain ⟨⟨x0, x1, x2⟩, ⟨y0, y1, y2, y3, y4⟩, f6, f7⟩ := hF.Z.facts
  have hB := hF.B
  clear hb2 hF
  go_wp2_with fail
  refine bodyPost_ret (v := .tuple #[.agg #[.string S, .int .i64 f.to, .int .i64 f.er], .agg #[.int .u64 f.num, .int .i64 f.int, .string (strB f.text), .int .i64 0, .int .i64 0]]) (by simp [results, Try.results51, go_sem, x0, x1, x2, y0, y1, y2, y3, y4]) rfl ?_
  exact ⟨rfl, below_sets hB (by omega) (by omega) _ _ _ _ _ _ _ _⟩

end Go.Proofs.Ytlecofghifjmcaa.Wire
