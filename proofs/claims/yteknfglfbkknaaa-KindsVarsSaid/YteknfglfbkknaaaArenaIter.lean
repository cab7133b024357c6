/-
  Package arena, walked: a node and all below it, told place by place to a loop's body (an iterator of two values, by a goto).
-/
import Derived.Test.YteknfglfbkknaaaArenaPAr
import Derived.Test.YteknfglfbkknaaaArenaEnd
import Derived.Test.YteknfglfbkknaaaJumps
import Derived.RangeFuncNested
import Derived.RangeFuncCalls
import Derived.RangeFuncBound
import Derived.RangeFuncLeaves
import Derived.Shelf.Abstract
import Derived.Shelf.RegionOpen
import Derived.OwnWalkIn
import Derived.TacticsInMore
import Derived.LoopNIn
import Derived.LoopIn
import Derived.Laws.EntriesVeiled
namespace Go.Proofs.Yteknfglfbkknaaa.Arena
open Go.RowKit Go.Shelf Mem _root_.Go.Proofs.Yteknfglfbkknaaa.Jumps

attribute [local go_sem] Oper.semAt_some

/-- Each place behind a node, with how many parts are owed there. -/
def row : List Nd → Nat → Nat → List (Int × Int)
  | [], _, _ => []
  | _ :: _, 0, _ => []
  | x :: l, c + 1, k => if ar x < 0 then [] else ((k : Int) + 1, (c : Int) + ar x) :: row l (c + (ar x).toNat) (k + 1)
theorem row_0 (l : List Nd) (k : Nat) : row l 0 k = [] := by cases l <;> rfl
theorem row_bad {x : Nd} {l : List Nd} {c k : Nat} (h : ar x < 0) : row (x :: l) (c + 1) k = [] := by rw [row, if_pos h]
theorem row_good {x : Nd} {l : List Nd} {c k : Nat} (h : ¬ ar x < 0) : row (x :: l) (c + 1) k = ((k : Int) + 1, (c : Int) + ar x) :: row l (c + (ar x).toNat) (k + 1) := by rw [row, if_neg h]
/-- What is told of a place. -/
def rows (xs : List Nd) (a : Int) : List (Int × Int) := if a < 0 then [] else row (xs.drop a.toNat) 1 a.toNat
/-- From a place on. -/
def rowsC (xs : List Nd) (i : Int) (c : Nat) : List (Int × Int) := if i < 0 then [] else row (xs.drop i.toNat) c i.toNat
theorem rows_nat (xs : List Nd) (k : Nat) : rows xs k = row (xs.drop k) 1 k := by unfold rows; rw [if_neg (by omega), Int.toNat_natCast]
theorem row_last : ∀ (l : List Nd) (c k : Nat) (pre : List (Int × Int)) (b : Int), pre ++ [(b, 0)] <+: row l (c + 1) k → ∃ n, scan (c + 1) l = some n ∧ b = (k : Int) + n
  | [], c, k, pre, b, h => by have := h.length_le; simp [row] at this
  | x :: l, c, k, pre, b, h => by
    by_cases hx : ar x < 0
    · rw [row_bad hx] at h; have := h.length_le; simp at this
    · rw [row_good hx] at h
      rw [scan_good (by omega)]
      cases pre with
      | nil =>
        rw [List.nil_append, List.cons_prefix_cons] at h
        obtain ⟨h1, -⟩ := h
        rw [Prod.mk.injEq] at h1
        obtain ⟨rfl, h2⟩ := h1
        rw [show c + (ar x).toNat = 0 by omega, scan_0]
        exact ⟨1, rfl, by omega⟩
      | cons y pre =>
        rw [List.cons_append, List.cons_prefix_cons] at h
        obtain ⟨-, h⟩ := h
        obtain ⟨j, hj⟩ : ∃ j, c + (ar x).toNat = j + 1 := by
          rcases Nat.eq_zero_or_pos (c + (ar x).toNat) with q | q
          · rw [q, row_0] at h; have := h.length_le; simp at this
          · exact ⟨c + (ar x).toNat - 1, by omega⟩
        rw [hj] at h ⊢
        obtain ⟨n, h1, h2⟩ := row_last l j (k + 1) pre b h
        exact ⟨n + 1, by rw [h1]; rfl, by omega⟩
theorem row_none : ∀ (l : List Nd) (c k : Nat), (∀ p ∈ row l (c + 1) k, p.2 ≠ 0) → scan (c + 1) l = none
  | [], c, k, _ => scan_nil c
  | x :: l, c, k, h => by
    by_cases hx : ar x < 0
    · exact scan_bad hx
    · rw [row_good hx] at h
      rw [scan_good (by omega)]
      have h0 := h _ (List.mem_cons_self ..)
      simp only at h0
      obtain ⟨j, hj⟩ : ∃ j, c + (ar x).toNat = j + 1 := ⟨c + (ar x).toNat - 1, by omega⟩
      rw [hj] at h ⊢
      rw [row_none l j (k + 1) (fun p hp => h p (List.mem_cons_of_mem _ hp))]
      rfl
theorem rows_last {xs : List Nd} {a : Int} {pre : List (Int × Int)} {b : Int} (h : pre ++ [(b, 0)] <+: rows xs a) : aend xs a = b := by
  by_cases ha : a < 0
  · unfold rows at h; rw [if_pos ha] at h; have := h.length_le; simp at this
  · obtain ⟨k, rfl⟩ := Int.eq_ofNat_of_zero_le (show 0 ≤ a by omega)
    rw [rows_nat] at h
    obtain ⟨n, h1, rfl⟩ := row_last _ _ _ _ _ h
    exact aend_some h1
theorem rows_none {xs : List Nd} {a : Int} (h : ∀ p ∈ rows xs a, p.2 ≠ 0) : aend xs a = -1 := by
  by_cases ha : a < 0
  · exact aend_neg ha
  · obtain ⟨k, rfl⟩ := Int.eq_ofNat_of_zero_le (show 0 ≤ a by omega)
    rw [rows_nat] at h
    exact aend_none (row_none _ _ _ h)

/-- A place and what is owed there, handed to a loop's body. -/
def told (x : Int × Int) : Array Value := #[.int .i64 x.1, .int .i64 x.2]

theorem grown_below {W W' : World} (h : Below W.heap.size W W') : W.grownBy W' none := ⟨h.os, h.tape, h.output, h.size, fun k hk _ => h.block k hk⟩

set_option maxRecDepth 100000 in
set_option maxHeartbeats 1000000 in
theorem walk1_stops (R Bl Ba B : Nat) (A : Option Addr) (cap : Nat) (xs : List Nd) (a : Int) (w : World) (hl : xs.length ≤ 1000000) (hx : Nodes w B A xs) (hB : B ≤ w.heap.size) (hRB : B ≤ R) (hBl : Bl < w.heap.size) (hBa : Ba < w.heap.size) (hRl : Bl ≠ R) (hRa : Ba ≠ R)
    (hcl : w.cell? ⟨Bl, 0, none⟩ = some (.slice A xs.length cap)) (hca : w.cell? ⟨Ba, 0, none⟩ = some (.int .i64 a)) :
    SeqStopsK Fence.wide 3 Try.prog 57 #[.pointer (some ⟨Ba, 0, none⟩), .pointer (some ⟨Bl, 0, none⟩)] told (Kept (fun k => k = R ∨ w.heap.size ≤ k)) (fun ys => ys = rows xs a) (fun pre => pre <+: rows xs a) 1000001 w := by
  intro l J Jx W hW hJ _ hY h0
  have hJ' : ∀ s W1 W2, J s W1 → Below W1.heap.size W1 W2 → J s W2 := fun s W1 W2 h hb => hJ s W1 W2 none h (grown_below hb) (fun r e => by cases e)
  have hKW : Kept (fun k => k = R ∨ w.heap.size ≤ k) w W := Kept.of_below hW (Nat.le_refl _)
  have HX := Lib.hid (fun W1 (h : Kept (fun k => k = R ∨ w.heap.size ≤ k) w W1) => hx.keep (w' := W1) (fun k hk => h.block k (by omega) (by rintro (e | e) <;> omega)))
  have HL := Lib.hid (fun W1 (h : Kept (fun k => k = R ∨ w.heap.size ≤ k) w W1) => (h.cell (p := ⟨Bl, 0, none⟩) hBl (by rintro (e | e) <;> simp at e <;> omega)).trans hcl)
  have hA0 := (hKW.cell (p := ⟨Ba, 0, none⟩) hBa (by rintro (e | e) <;> simp at e <;> omega)).trans hca
  clear hx hJ hcl hca
  refine callsIn_of_wp Try.func57 rfl trivial ?_ rfl
  simp only [Try.ntmps57, List.size_toArray, List.length_cons, List.length_nil, Nat.reduceAdd, Nat.reduceSub, Array.replicate_succ, Array.replicate_zero, List.push_toArray, List.append_toArray, List.nil_append, List.cons_append]
  gi_wp2
  have H0 := Lib.hid h0
  have hf1 : Fence.wide.fn 50 := trivial
  have hf2 : Fence.wide.fn 37 := trivial
  clear h0
  refine wpIn_scope_label 0 (fun a' w' => ∃ (pre : List (Int × Int)) (i : Int) (c : Nat) (u6 u7 u8 u9 u10 u11 u12 u13 u14 u15 u16 u17 u18 u19 u20 u21 u22 u23 u24 u25 u26 u27 u28 u29 u30 u31 u32 u33 u34 u35 u36 u37 u38 u39 : Value), a' = { tmps := #[.func (.yield l) #[] #[], .pointer (some ⟨Ba, 0, none⟩), .pointer (some ⟨Bl, 0, none⟩), undef, .int .i64 i, .int .i64 ((c : Int) + 1), u6, u7, u8, u9, u10, u11, u12, u13, u14, u15, u16, u17, u18, u19, u20, u21, u22, u23, u24, u25, u26, u27, u28, u29, u30, u31, u32, u33, u34, u35, u36, u37, u38, u39], defers := [] } ∧
      rows xs a = pre ++ rowsC xs i (c + 1) ∧ c ≤ 200 * pre.length ∧ i = a + pre.length ∧ (pre = [] ∨ 0 ≤ a) ∧ J pre w' ∧ Kept (fun k => k = R ∨ w.heap.size ≤ k) w w') (fun a' _ => xs.length - (intOf (a'.tmps.getD 4 undef)).toNat) rfl ?_ ?_
  · gi_wp2
    exact ⟨[], a, 0, _, _, _, _, _, _, _, _, _, _, _, _, _, _, _, _, _, _, _, _, _, _, _, _, _, _, _, _, _, _, _, _, _, _, rfl, rfl, by simp, by simp, .inl rfl, H0.out, hKW⟩
  · rintro a' w' ⟨pre, i, c, u6, u7, u8, u9, u10, u11, u12, u13, u14, u15, u16, u17, u18, u19, u20, u21, u22, u23, u24, u25, u26, u27, u28, u29, u30, u31, u32, u33, u34, u35, u36, u37, u38, u39, rfl, hrow, hc, hi, hpa, hJp, hK⟩
    have hBw : B ≤ w'.heap.size := Nat.le_trans hB hK.size
    have hL := HL.out _ hK
    by_cases hi0 : i < 0
    · have hE := Lib.hid (show rows xs a = pre by rw [hrow]; unfold rowsC; rw [if_pos hi0, List.append_nil])
      clear hrow hi
      gi_wp2
      simp only [Exit.jump]
      refine bodyPost_ret (results_none rfl _ _ _) rfl ?_
      exact ⟨⟨_, rfl⟩, .inl ⟨_, hE.out.symm, hJp⟩⟩
    obtain ⟨k, rfl⟩ := Int.eq_ofNat_of_zero_le (show 0 ≤ i by omega)
    have hrow' : rows xs a = pre ++ row (xs.drop k) (c + 1) k := by rw [hrow]; unfold rowsC; rw [if_neg hi0, Int.toNat_natCast]
    clear hrow
    by_cases hlt : k < xs.length
    · obtain ⟨x, hxk⟩ : ∃ x, xs[k]? = some x := ⟨_, List.getElem?_eq_getElem hlt⟩
      have hd : xs.drop k = x :: xs.drop (k + 1) := by
        obtain ⟨h1, rfl⟩ := List.getElem?_eq_some_iff.1 hxk
        exact List.drop_eq_getElem_cons h1
      rw [hd] at hrow'
      obtain ⟨ad, rfl, hbk, g0, g1⟩ := (HX.out _ hK) k x hxk
      have i1 : (k : Int) < (xs.length : Int) := by omega
      have i2 : (0 : Int) ≤ (k : Int) := by omega
      have HS := Lib.hid (fun W => strange_any x W)
      by_cases hbad : ar x < 0
      · have hE := Lib.hid (show rows xs a = pre by rw [hrow', row_bad hbad, List.append_nil])
        rw [decide_eq_true hbad] at HS
        clear hrow' hi hd hxk
        gi_wp2_with (gi_at_call 50; refine ((callsIn_wide (n := 2)).2 (HS.out _)).mono ?_; rintro e w2 ⟨rfl, hb2⟩)
        simp only [Exit.jump]
        refine bodyPost_ret (results_none rfl _ _ _) rfl ?_
        exact ⟨⟨_, rfl⟩, .inl ⟨_, hE.out.symm, hJ' _ _ _ hJp hb2⟩⟩
      · obtain ⟨m, hm⟩ := Int.eq_ofNat_of_zero_le (show 0 ≤ ar x by omega)
        have har := (ar_le x).2
        rw [decide_eq_false hbad] at HS
        rw [row_good hbad, hm, Int.toNat_natCast] at hrow'
        have hpl : pre.length ≤ 1000000 := by rcases hpa with rfl | h; simp; omega
        have HR := Lib.hid hrow'
        have HI := Lib.hid hi
        clear hi
        have HA := Lib.hid (fun W => Arity_any x.1 x.2 W)
        have hyld := fun W1 (h : J pre W1) => hY pre ((k : Int) + 1, (c : Int) + (m : Int)) W1 h (by omega)
        rw [show ar (x.1, x.2) = (m : Int) from hm] at HA
        have v1 : IntKind.i64.wrap ((m : Int) - 1) = (m : Int) - 1 := IntWalk.i64_in _ (by omega)
        have v2 : IntKind.i64.wrap ((c : Int) + 1 + ((m : Int) - 1)) = (c : Int) + (m : Int) := by rw [IntWalk.i64_in _ (by omega)]; omega
        have v3 : IntKind.i64.wrap ((k : Int) + 1) = (k : Int) + 1 := IntWalk.i64_in _ (by omega)
        have ht : told ((k : Int) + 1, (c : Int) + (m : Int)) = #[.int .i64 ((k : Int) + 1), .int .i64 ((c : Int) + (m : Int))] := rfl
        rw [ht] at hyld
        clear hrow' hd hY
        have HXK := Lib.hid hxk
        clear hxk
        gi_wp2_with (first
          | (gi_at_call 50; refine ((callsIn_wide (n := 2)).2 (HS.out _)).mono ?_; rintro e w2 ⟨rfl, hb2⟩; have hK2 := Kept.below hK hb2; have hJ2 := hJ' _ _ _ hJp hb2; have hL2 := HL.out _ hK2; obtain ⟨ad2, q0, hbk2, g0', g1'⟩ := (HX.out _ hK2) k x HXK.out; cases q0)
          | (gi_at_call 37; refine ((callsIn_wide (n := 2)).2 (HA.out _)).mono ?_; rintro e w3 ⟨rfl, hb3⟩; have hK3 := Kept.below hK2 hb3; have hJ3 := hJ' _ _ _ hJ2 hb3; obtain ⟨fn, tmps, assign, body, hy, hR⟩ := hyld _ hJ3))
        refine hR.mono ?_
        rintro e W4 (⟨rfl, hJ4, hK4⟩ | ⟨rfl, hJx4⟩)
        · by_cases hz : c + m = 0
          · have hz' : ¬ (0 : Int) < (c : Int) + (m : Int) := by omega
            gi_wp2
            simp only [Exit.jump]
            go_end0
            refine ⟨⟨_, rfl⟩, .inl ⟨_, ?_, hJ4⟩⟩
            rw [HR.out, hz, row_0]
          · have hz' : (0 : Int) < (c : Int) + (m : Int) := by omega
            gi_wp2
            obtain ⟨j, hj⟩ : ∃ j, c + m = j + 1 := ⟨c + m - 1, by omega⟩
            refine wpIn_goto ?_
            refine ⟨rfl, ?_, ?_⟩
            · have hcm : (c : Int) + (m : Int) = (j : Int) + 1 := by omega
              have hlen := HI.out
              rw [hcm]
              refine ⟨pre ++ [((k : Int) + 1, (c : Int) + (m : Int))], (k : Int) + 1, j, _, _, _, _, _, _, _, _, _, _, _, _, _, _, _, _, _, _, _, _, _, _, _, _, _, _, _, _, _, _, _, _, _, _, rfl, ?_, ?_, ?_, ?_, ?_, ?_⟩
              · rw [HR.out, List.append_assoc, hj]
                unfold rowsC
                rw [if_neg (by omega), show ((k : Int) + 1).toNat = k + 1 by omega]
                rfl
              · rw [List.length_append, List.length_singleton]; omega
              · rw [List.length_append, List.length_singleton]; omega
              · rcases hpa with rfl | h
                · right; simp at hlen; omega
                · exact .inr h
              · exact hJ4
              · exact hK3.then hK4 (fun i q => .inl q)
            · show xs.length - ((k : Int) + 1).toNat < xs.length - (k : Int).toNat
              omega
        · gi_wp2
          simp only [Exit.jump]
          go_end0
          exact ⟨⟨_, rfl⟩, .inr ⟨_, by rw [HR.out]; exact ⟨_, List.append_assoc _ _ _⟩, hJx4⟩⟩
    · have hE := Lib.hid (show rows xs a = pre by rw [hrow', List.drop_eq_nil_of_le (by omega), row, List.append_nil])
      have i1 : (xs.length : Int) ≤ (k : Int) := by omega
      have i2 : (0 : Int) ≤ (k : Int) := by omega
      clear hrow' hi
      gi_wp2
      simp only [Exit.jump]
      refine bodyPost_ret (results_none rfl _ _ _) rfl ?_
      exact ⟨⟨_, rfl⟩, .inl ⟨_, hE.out.symm, hJp⟩⟩

end Go.Proofs.Yteknfglfbkknaaa.Arena
