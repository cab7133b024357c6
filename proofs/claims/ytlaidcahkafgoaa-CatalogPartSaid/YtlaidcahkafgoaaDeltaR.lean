/-
  The reference of deltas, walked: its small functions.
  The reference of deltas, walked: nodes with others instead of those between two places.
  The reference of deltas, walked: may a node be changed so?
  The reference of deltas, walked: a body that is changed.
  The reference of deltas, walked: a body that is changed, of any delta that may be.
  The reference of deltas, walked: a program that is changed.
-/
import Derived.Test.YtlaidcahkafgoaaDeltaG
import Derived.Test.YtlaidcahkafgoaaPathG
import Derived.Deep.QuietTactic
import Derived.Test.YtlaidcahkafgoaaArenaH
import Derived.Deep.CutBlock
import Derived.Deep.CutRange
import Derived.Deep.RegionHeld3
import Derived.Deep.DrawnRows
namespace Go.Proofs.Ytlaidcahkafgoaa.Delta
open Go.RowKit Mem _root_.Go.Proofs.Ytlaidcahkafgoaa.Arena _root_.Go.Proofs.Ytlaidcahkafgoaa.Path
set_option linter.unusedVariables false
attribute [local go_sem ↓] Go.wp_at_zero Go.wp_at_succ

set_option maxRecDepth 100000 in
theorem ref_less_any (a b : Int) (w : World) : Calls Try.prog 24 #[.int .i64 a, .int .i64 b] w fun e w' => e = .returned (.int .i64 (three a b)) ∧ w' = w := by
  by_cases h1 : a < b
  · have hE := Lib.hid (show three a b = -1 from if_pos h1)
    go_enter Try.func24, Try.ntmps24
    go_wp2
    go_ret
    exact ⟨by rw [hE.out]; rfl, rfl⟩
  by_cases h2 : b < a
  · have hE := Lib.hid (show three a b = 1 by unfold three; rw [if_neg h1, if_pos h2])
    go_enter Try.func24, Try.ntmps24
    go_wp2
    go_ret
    exact ⟨by rw [hE.out]; rfl, rfl⟩
  have hE := Lib.hid (show three a b = 0 by unfold three; rw [if_neg h1, if_neg h2])
  go_enter Try.func24, Try.ntmps24
  go_wp2
  go_ret
  exact ⟨by rw [hE.out]; rfl, rfl⟩

/-- Is a number between two? -/
def bt (n lo hi : Int) : Bool := decide (lo ≤ n ∧ n ≤ hi)
set_option maxRecDepth 100000 in
set_option maxHeartbeats 1000000 in
theorem ref_DCompare_any (a b : Dlt) (w : World) (ha : a.Ok w) (hb : b.Ok w) :
    Calls Try.prog 11 #[.agg #[.slice a.A a.p.length a.c, .int .i64 a.op, .int .i64 a.n], .agg #[.slice b.A b.p.length b.c, .int .i64 b.op, .int .i64 b.n]] w fun e w' => e = .returned (.int .i64 (dcmp a.p a.op a.n b.p b.op b.n)) ∧ Below w.heap.size w w' := by
  obtain ⟨A, c, p, op, n⟩ := a
  obtain ⟨A', c', p', op', n'⟩ := b
  simp only at *
  have hB0 : Below w.heap.size w (w.alloc (.cells #[.slice A p.length c, .int .i64 op, .int .i64 n] 29)) := (Below.refl _ _).alloc (Nat.le_refl _) _
  have hB1 := hB0.alloc hB0.size (.cells #[.slice A' p'.length c', .int .i64 op', .int .i64 n'] 29)
  obtain ⟨x0, x1, x2⟩ := ((Blk.new w 29 #[.slice A p.length c, .int .i64 op, .int .i64 n]).alloc (.cells #[.slice A' p'.length c', .int .i64 op', .int .i64 n'] 29)).three
  have bY := Blk.new (w.alloc (.cells #[.slice A p.length c, .int .i64 op, .int .i64 n] 29)) 29 #[.slice A' p'.length c', .int .i64 op', .int .i64 n']
  rw [World.size_alloc] at bY
  obtain ⟨y0, y1, y2⟩ := bY.three
  have bX := (Blk.new w 29 #[.slice A p.length c, .int .i64 op, .int .i64 n]).alloc (.cells #[.slice A' p'.length c', .int .i64 op', .int .i64 n'] 29)
  have hlX := bX.lt
  have hlY := bY.lt
  have HX := Lib.hid (fun W (h : Below _ _ W) => (bX.below h hlX).three)
  have HY := Lib.hid (fun W (h : Below _ _ W) => (bY.below h hlY).three)
  have HC := Lib.hid (Path.ref_Compare_any A c p A' c' p' _ (ha.at hB1).path (hb.at hB1).path ha.len hb.len)
  have HL := Lib.hid (fun W => ref_less_any op op' W)
  have HN := Lib.hid (fun W => ref_less_any n n' W)
  by_cases h : cmp p p' = 0
  · by_cases k : op = op'
    · subst k
      have HE := Lib.hid (show dcmp p op n p' op n' = three n n' by unfold dcmp; rw [if_neg (by omega), if_neg (by omega)])
      rw [h] at HC
      clear ha hb bX bY h
      go_enter Try.func11, Try.ntmps11
      go_wp2_with (first
        | (go_at_call 23; refine HC.out.mono ?_; rintro e w1 ⟨rfl, hb1⟩; obtain ⟨x0, x1, x2⟩ := HX.out _ hb1; obtain ⟨y0, y1, y2⟩ := HY.out _ hb1)
        | (go_at_call 24; refine (HN.out _).mono ?_; rintro e w2 ⟨rfl, rfl⟩))
      go_ret
      exact ⟨by rw [HE.out]; rfl, hB1.trans (hb1.mono hB1.size)⟩
    · have HE := Lib.hid (show dcmp p op n p' op' n' = three op op' by unfold dcmp; rw [if_neg (by omega), if_pos k])
      have e1 : (op == op') = false := by simpa using k
      have e2 : (op != op') = true := by simpa using k
      rw [h] at HC
      clear ha hb bX bY h k
      go_enter Try.func11, Try.ntmps11
      go_wp2_with (first
        | (go_at_call 23; refine HC.out.mono ?_; rintro e w1 ⟨rfl, hb1⟩; obtain ⟨x0, x1, x2⟩ := HX.out _ hb1; obtain ⟨y0, y1, y2⟩ := HY.out _ hb1)
        | (go_at_call 24; refine (HL.out _).mono ?_; rintro e w2 ⟨rfl, rfl⟩))
      go_ret
      exact ⟨by rw [HE.out]; rfl, hB1.trans (hb1.mono hB1.size)⟩
  · have HE := Lib.hid (show dcmp p op n p' op' n' = cmp p p' from if_pos h)
    obtain ⟨cc, hcc⟩ : ∃ cc, cmp p p' = cc := ⟨_, rfl⟩
    rw [hcc] at HC HE h
    have e1 : (cc == 0) = false := by simpa using h
    have e2 : (cc != 0) = true := by simpa using h
    clear ha hb bX bY h hcc
    go_enter Try.func11, Try.ntmps11
    go_wp2_with (first
      | (go_at_call 23; refine HC.out.mono ?_; rintro e w1 ⟨rfl, hb1⟩))
    go_ret
    exact ⟨by rw [HE.out]; rfl, hB1.trans (hb1.mono hB1.size)⟩

end Go.Proofs.Ytlaidcahkafgoaa.Delta

namespace Go.Proofs.Ytlaidcahkafgoaa.Delta
open Go.RowKit Mem _root_.Go.Proofs.Ytlaidcahkafgoaa.Arena _root_.Go.Proofs.Ytlaidcahkafgoaa.Path
set_option linter.unusedVariables false
attribute [local go_sem ↓] Go.wp_at_zero Go.wp_at_succ

theorem snoc_nd {l : List Nd} {k : Nat} {x : Nd} (h : l[k]? = some x) : l.take (k + 1) = l.take k ++ [x] := by rw [List.take_add_one, h]; rfl
theorem snoc_dr {l : List Nd} {b k : Nat} {x : Nd} (hb : b ≤ k) (h : l[k]? = some x) : (l.drop b).take (k + 1 - b) = (l.drop b).take (k - b) ++ [x] := by
  rw [show k + 1 - b = (k - b) + 1 by omega, List.take_add_one, List.getElem?_drop, show b + (k - b) = k by omega, h]; rfl

end Go.Proofs.Ytlaidcahkafgoaa.Delta

namespace Go.Proofs.Ytlaidcahkafgoaa.Delta
open Go.RowKit Mem _root_.Go.Proofs.Ytlaidcahkafgoaa.Arena _root_.Go.Proofs.Ytlaidcahkafgoaa.Path
set_option linter.unusedVariables false
attribute [local go_sem ↓] Go.wp_at_zero Go.wp_at_succ

theorem large_split (t : Int) : t = 21 ∨ t = 22 ∨ t = 23 ∨ t = 24 ∨ t = 25 ∨ ((t == 21) = false ∧ (t == 22) = false ∧ (t == 23) = false ∧ (t == 24) = false ∧ (t == 25) = false) := by
  simp only [beq_eq_false_iff_ne]
  omega
def large (t : Int) : Bool := decide (t = 21 ∨ t = 22 ∨ t = 23 ∨ t = 24 ∨ t = 25)
theorem large_no {t : Int} (h : (t == 21) = false ∧ (t == 22) = false ∧ (t == 23) = false ∧ (t == 24) = false ∧ (t == 25) = false) : large t = false := by
  simp only [beq_eq_false_iff_ne] at h
  unfold large
  exact decide_eq_false (by omega)
theorem ops_split (op : Int) : op = 1 ∨ op = 2 ∨ op = 3 ∨ op = 4 ∨ op = 5 ∨ op = 6 ∨ op = 7 ∨ ((op == 1) = false ∧ (op == 2) = false ∧ (op == 3) = false ∧ (op == 4) = false ∧ (op == 5) = false ∧ (op == 6) = false ∧ (op == 7) = false) := by
  simp only [beq_eq_false_iff_ne]
  omega
theorem dmay_no {t op n : Int} (h : (op == 1) = false ∧ (op == 2) = false ∧ (op == 3) = false ∧ (op == 4) = false ∧ (op == 5) = false ∧ (op == 6) = false ∧ (op == 7) = false) : dmay t op n = false := by
  simp only [beq_eq_false_iff_ne] at h
  unfold dmay
  rw [if_neg (by omega), if_neg (by omega), if_neg (by omega), if_neg (by omega), if_neg (by omega), if_neg (by omega), if_neg (by omega)]

end Go.Proofs.Ytlaidcahkafgoaa.Delta

namespace Go.Proofs.Ytlaidcahkafgoaa.Delta
open Go.RowKit Mem _root_.Go.Proofs.Ytlaidcahkafgoaa.Arena _root_.Go.Proofs.Ytlaidcahkafgoaa.Path
set_option linter.unusedVariables false
attribute [local go_sem ↓] Go.wp_at_zero Go.wp_at_succ

theorem dmay_op {t op v : Int} (h : dmay t op v = true) : op = 1 ∨ op = 2 ∨ op = 3 ∨ op = 4 ∨ op = 5 ∨ op = 6 ∨ op = 7 := by
  rcases ops_split op with q | q | q | q | q | q | q | q
  all_goals try omega
  rw [dmay_no q] at h
  cases h
/-- The first kid of a Return. -/
theorem ret_kid {l : List Nd} {a n : Nat} {x : Nd} (h : scan 1 (l.drop a) = some n) (hx : l[a]? = some x) {v : Int} (hm : dmay x.1 7 v = true) : ∃ n1, scan 1 (l.drop (a + 1)) = some n1 ∧ a + 1 + n1 ≤ l.length := by
  have ha : a < l.length := (List.getElem?_eq_some_iff.1 hx).1
  have hm' : x.1 = 25 := by
    have : dmay x.1 7 v = decide (x.1 = 25) := rfl
    rw [this, decide_eq_true_eq] at hm
    exact hm
  have hd : l.drop a = x :: l.drop (a + 1) := by
    rw [List.drop_eq_getElem_cons ha]
    rw [List.getElem?_eq_getElem ha] at hx
    rw [Option.some.inj hx]
  have har : 0 ≤ ar x := by
    by_cases c : ar x < 0
    · rw [hd, show (1 : Nat) = 0 + 1 from rfl, scan_bad c] at h; cases h
    · omega
  have ha1 : ar x = 1 := by
    unfold ar at har ⊢
    rw [hm'] at har ⊢
    rw [if_neg (by decide)] at har ⊢
    split
    · rename_i c; rw [if_pos c] at har; omega
    · unfold asks; simp
  rw [hd, show (1 : Nat) = 0 + 1 from rfl, scan_good har, ha1, Option.map_eq_some_iff] at h
  obtain ⟨n1, h1, rfl⟩ := h
  have h1' : scan 1 (l.drop (a + 1)) = some n1 := h1
  have hl1 := scan_le _ _ _ h1'
  rw [List.length_drop] at hl1
  exact ⟨n1, h1', by omega⟩

end Go.Proofs.Ytlaidcahkafgoaa.Delta

namespace Go.Proofs.Ytlaidcahkafgoaa.Delta
open Go.RowKit Mem _root_.Go.Proofs.Ytlaidcahkafgoaa.Arena _root_.Go.Proofs.Ytlaidcahkafgoaa.Path
set_option linter.unusedVariables false
attribute [local go_sem ↓] Go.wp_at_zero Go.wp_at_succ

end Go.Proofs.Ytlaidcahkafgoaa.Delta

namespace Go.Proofs.Ytlaidcahkafgoaa.Delta
open Go.RowKit Mem _root_.Go.Proofs.Ytlaidcahkafgoaa.Arena _root_.Go.Proofs.Ytlaidcahkafgoaa.Kinds _root_.Go.Proofs.Ytlaidcahkafgoaa.Path
set_option linter.unusedVariables false
attribute [local go_sem ↓] Go.wp_at_zero Go.wp_at_succ

/-- Nodes don't lie in a program's variable. -/
theorem nodes_off {w : World} {B R : Nat} {t : TypeId} {ad : Addr} {xs : List Nd} {k : Int} {a b : Value} (h : Nodes w B (some ad) xs) (hx : xs ≠ []) (hR : Blk w R t #[.int .i64 k, a, b]) (ha : ∀ z, a ≠ .int .i64 z) (hb : ∀ z, b ≠ .int .i64 z) : ad.block ≠ R := by
  intro he
  cases xs with
  | nil => exact hx rfl
  | cons x xs =>
    obtain ⟨ad', e, -, h1, h2⟩ := h 0 x rfl
    cases e
    rw [Nat.zero_mul, show ad.add 0 = ad by simp [Addr.add]] at h1 h2
    have c := fun (o : Nat) => hR.cell o
    obtain ⟨bk, o, m⟩ := ad
    simp only at he h1 h2
    subst he
    unfold Blk at hR
    have key : ∀ (o : Nat) (m : _) (v : Value), w.cell? ⟨bk, o, m⟩ = some v → (#[.int .i64 k, a, b] : Array Value)[o]? = some v := fun o m v q => by
      simp [World.cell?, hR] at q
      have q2 := q.2
      simpa using q2
    have k1 := key o m _ h1
    have k2 := key (o + 1) none _ h2
    match o, k1, k2 with
    | 0, _, k2 => simp at k2; exact ha _ k2
    | 1, k1, _ => simp at k1; exact ha _ k1
    | 2, k1, _ => simp at k1; exact hb _ k1
    | o + 3, k1, _ => simp at k1
theorem nodes_sets {w : World} {R : Nat} {t : TypeId} {A : Option Addr} {xs : List Nd} {k : Int} {a b : Value} (h : Nodes w w.heap.size A xs) (hR : Blk w R t #[.int .i64 k, a, b]) (ha : ∀ z, a ≠ .int .i64 z) (hb : ∀ z, b ≠ .int .i64 z) (v0 v1 v2 : Value) :
    Nodes (((w.setCell ⟨R, 0, none⟩ v0).setCell ⟨R, 1, none⟩ v1).setCell ⟨R, 2, none⟩ v2) (((w.setCell ⟨R, 0, none⟩ v0).setCell ⟨R, 1, none⟩ v1).setCell ⟨R, 2, none⟩ v2).heap.size A xs := by
  intro i x hx
  obtain ⟨ad, rfl, hlt, h1, h2⟩ := h i x hx
  have hne := nodes_off h (fun e => by rw [e] at hx; cases hx) hR ha hb
  have hk : ∀ q : Addr, q.block = ad.block → (((w.setCell ⟨R, 0, none⟩ v0).setCell ⟨R, 1, none⟩ v1).setCell ⟨R, 2, none⟩ v2).cell? q = w.cell? q := fun q hq => by
    refine World.cell?_of_block ?_
    rw [hq, Below.heap_setCell _ _ _ _ hne, Below.heap_setCell _ _ _ _ hne, Below.heap_setCell _ _ _ _ hne]
  exact ⟨ad, rfl, by simpa [World.setCell] using hlt, by rw [hk _ (add_blockN _ _)]; exact h1, by rw [hk ⟨(ad.add (i * 2)).block, (ad.add (i * 2)).off + 1, none⟩ (add_blockN _ _)]; exact h2⟩
theorem row_sets {w : World} {R : Nat} {A : Option Addr} {ks : List Int} (h : IRow w w.heap.size A ks) (hR : ∀ ad, A = some ad → ks ≠ [] → ad.block ≠ R) (v0 v1 v2 : Value) :
    IRow (((w.setCell ⟨R, 0, none⟩ v0).setCell ⟨R, 1, none⟩ v1).setCell ⟨R, 2, none⟩ v2) (((w.setCell ⟨R, 0, none⟩ v0).setCell ⟨R, 1, none⟩ v1).setCell ⟨R, 2, none⟩ v2).heap.size A ks := by
  intro i x hx
  obtain ⟨ad, rfl, hlt, h1⟩ := h i x hx
  have hne := hR ad rfl (fun e => by rw [e] at hx; simp at hx)
  refine ⟨ad, rfl, by simpa [World.setCell] using hlt, ?_⟩
  rw [← h1]
  refine World.cell?_of_block ?_
  rw [add_blockN, Below.heap_setCell _ _ _ _ hne, Below.heap_setCell _ _ _ _ hne, Below.heap_setCell _ _ _ _ hne]

theorem zero_ok (w : World) : Prg.Ok ⟨0, none, 0, [], none, 0, []⟩ w := ⟨fun i x h => by simp at h, fun i x h => by simp at h, by simp, by simp, by simp, by simp, fun _ => rfl, fun _ => rfl⟩

end Go.Proofs.Ytlaidcahkafgoaa.Delta
