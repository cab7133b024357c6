/-
  The reference of code, walked: the program of bytes.
-/
import Derived.Test.YtpjijdgenojpcaaGreatCodeRefC
import Derived.Test.YtpjijdgenojpcaaGreatCodeWorks
import Derived.Test.YtpjijdgenojpcaaGreatCodeH
import Derived.Deep.CutBlock
import Derived.Deep.CutRange
namespace Go.Proofs.YtpjijdgenojpcaaGreat.Code
open Go.RowKit Leb Mem Wire _root_.Go.Proofs.YtpjijdgenojpcaaGreat.Arena _root_.Go.Proofs.YtpjijdgenojpcaaGreat.Kinds
set_option linter.unusedVariables false
attribute [local go_sem ↓] Go.wp_at_zero Go.wp_at_succ

/-- What Get's variables hold: the result's, the program's, the reader's. -/
structure GM (w : World) (S : ByteArray) (P q : Nat) (ps : Int) (v u : Value) (st : Int × Int) (wr : World) : Prop where
  below : Below w.heap.size w wr
  r : Blk wr w.heap.size 25 #[.int .i64 0, .slice none 0 0, .slice none 0 0]
  rp : Blk wr P 25 #[.int .i64 ps, v, u]
  rq : Blk wr q 56 #[.string S, .int .i64 st.1, .int .i64 st.2]
  s0 : 0 ≤ st.1
  s1 : st.1 ≤ S.size
  hP : w.heap.size < P
  hq : P < q
section
variable {w wr w' : World} {S : ByteArray} {P q : Nat} {ps : Int} {v u : Value} {st : Int × Int}
theorem GM.after (h : GM w S P q ps v u st wr) (hb : Below wr.heap.size wr w') : GM w S P q ps v u st w' :=
  ⟨h.below.trans (hb.mono h.below.size), h.r.below hb h.r.lt, h.rp.below hb h.rp.lt, h.rq.below hb h.rq.lt, h.s0, h.s1, h.hP, h.hq⟩
theorem GM.grown {row : Option Nat} (h : GM w S P q ps v u st wr) (hg : wr.grownBy w' row) (hr : ∀ k, row = some k → q < k) : GM w S P q ps v u st w' := by
  have h1 := h.hP
  have h2 := h.hq
  refine ⟨h.below.grown hg h.below.size (fun i e => by have := hr i e; omega), h.r.grown hg (fun e => by have := hr _ e.symm; omega), h.rp.grown hg (fun e => by have := hr _ e.symm; omega), h.rq.grown hg (fun e => by have := hr _ e.symm; omega), h.s0, h.s1, h1, h2⟩
theorem GM.setv (h : GM w S P q ps v u st wr) (v' : Value) : GM w S P q ps v' u st (wr.setCell ⟨P, 1, none⟩ v') := by
  have h1 := h.hP
  have h2 := h.hq
  have b := h.rp.set 1 v'
  simp only [List.setIfInBounds_toArray, List.set_cons_zero, List.set_cons_succ] at b
  exact ⟨h.below.setCell (p := ⟨P, 1, none⟩) (by simp; omega) v', h.r.apart (p := ⟨P, 1, none⟩) (by simp; omega) v', b, h.rq.apart (p := ⟨P, 1, none⟩) (by simp; omega) v', h.s0, h.s1, h1, h2⟩
theorem GM.setu (h : GM w S P q ps v u st wr) (u' : Value) : GM w S P q ps v u' st (wr.setCell ⟨P, 2, none⟩ u') := by
  have h1 := h.hP
  have h2 := h.hq
  have b := h.rp.set 2 u'
  simp only [List.setIfInBounds_toArray, List.set_cons_zero, List.set_cons_succ] at b
  exact ⟨h.below.setCell (p := ⟨P, 2, none⟩) (by simp; omega) u', h.r.apart (p := ⟨P, 2, none⟩) (by simp; omega) u', b, h.rq.apart (p := ⟨P, 2, none⟩) (by simp; omega) u', h.s0, h.s1, h1, h2⟩
theorem GM.setq (h : GM w S P q ps v u st wr) (t : Int × Int) (h0 : 0 ≤ t.1) (h1 : t.1 ≤ S.size) : GM w S P q ps v u t (((wr.setCell ⟨q, 0, none⟩ (.string S)).setCell ⟨q, 1, none⟩ (.int .i64 t.1)).setCell ⟨q, 2, none⟩ (.int .i64 t.2)) := by
  have h3 := h.hP
  have h4 := h.hq
  have b := ((h.rq.set 0 (.string S)).set 1 (.int .i64 t.1)).set 2 (.int .i64 t.2)
  simp only [List.setIfInBounds_toArray, List.set_cons_zero, List.set_cons_succ] at b
  exact ⟨((h.below.setCell (p := ⟨q, 0, none⟩) (by simp; omega) _).setCell (p := ⟨q, 1, none⟩) (by simp; omega) _).setCell (p := ⟨q, 2, none⟩) (by simp; omega) _,
    ((h.r.apart (p := ⟨q, 0, none⟩) (by simp; omega) _).apart (p := ⟨q, 1, none⟩) (by simp; omega) _).apart (p := ⟨q, 2, none⟩) (by simp; omega) _,
    ((h.rp.apart (p := ⟨q, 0, none⟩) (by simp; omega) _).apart (p := ⟨q, 1, none⟩) (by simp; omega) _).apart (p := ⟨q, 2, none⟩) (by simp; omega) _, b, h0, h1, h3, h4⟩
theorem GM.away (h : GM w S P q ps v u st wr) {a : Addr} (ha : q < a.block) (x : Value) : GM w S P q ps v u st (wr.setCell a x) := by
  have h1 := h.hP
  have h2 := h.hq
  exact ⟨h.below.setCell (by omega) x, h.r.apart (by omega) x, h.rp.apart (by omega) x, h.rq.apart (by omega) x, h.s0, h.s1, h1, h2⟩
/-- Another reader's variable. -/
theorem GM.next (h : GM w S P q ps v u st wr) (t : Int × Int) (h0 : 0 ≤ t.1) (h1 : t.1 ≤ S.size) : GM w S P wr.heap.size ps v u t (wr.alloc (.cells #[.string S, .int .i64 t.1, .int .i64 t.2] 56)) :=
  ⟨h.below.alloc h.below.size _, h.r.alloc _, h.rp.alloc _, Blk.new _ _ _, h0, h1, h.hP, h.rp.lt⟩
end
theorem own_setCell {w : World} {base : Nat} {e : TypeId} {size : Nat} {v : Value} {n : Nat} {xs : List Value} (h : w.ownsRow base e size v n xs) (a : Addr) (x : Value) (ha : ∀ i, v.ownBlock = some i → i ≠ a.block) : (w.setCell a x).ownsRow base e size v n xs := own_of_block h (fun i hi => Below.heap_setCell _ _ _ _ (ha i hi))
theorem gm_sets (w : World) (P q : Nat) (v0 v1 v2 v3 : Value) {i : Nat} (h1 : i ≠ P) (h2 : i ≠ q) : ((((w.setCell ⟨P, 1, none⟩ v0).setCell ⟨q, 0, none⟩ v1).setCell ⟨q, 1, none⟩ v2).setCell ⟨q, 2, none⟩ v3).heap[i]? = w.heap[i]? := by
  rw [Below.heap_setCell _ _ _ _ h2, Below.heap_setCell _ _ _ _ h2, Below.heap_setCell _ _ _ _ h2, Below.heap_setCell _ _ _ _ h1]
theorem rv_range {S : ByteArray} {s : Int × Int} (h0 : 0 ≤ s.1) (h : s.1 ≤ S.size) : ∀ k, 0 ≤ (rv S s k).2.1 ∧ (rv S s k).2.1 ≤ S.size
  | 0 => ⟨h0, h⟩
  | k + 1 => ask_range (rv_range h0 h k).1 (rv_range h0 h k).2
theorem num_range {S : ByteArray} {s : Int × Int} {t : Int} (h0 : 0 ≤ s.1) (h : s.1 ≤ S.size) : 0 ≤ (num S s t).1.1 ∧ (num S s t).1.1 ≤ S.size := by
  unfold num
  split
  · exact ask_range h0 h
  · split
    · exact ask_range h0 h
    · exact ⟨h0, h⟩
theorem rb_range {S : ByteArray} {s : Int × Int} (h0 : 0 ≤ s.1) (h : s.1 ≤ S.size) : ∀ k, 0 ≤ (rb S s k).2.1 ∧ (rb S s k).2.1 ≤ S.size
  | 0 => ⟨h0, h⟩
  | k + 1 => by
    have q := ask_range (k := 0) (rb_range h0 h k).1 (rb_range h0 h k).2
    exact num_range q.1 q.2
theorem rv_len (S : ByteArray) (s : Int × Int) : ∀ k, (rv S s k).1.length = k
  | 0 => rfl
  | k + 1 => by rw [rv, List.length_append, rv_len S s k]; rfl
theorem rb_len (S : ByteArray) (s : Int × Int) : ∀ k, (rb S s k).1.length = k
  | 0 => rfl
  | k + 1 => by rw [rb, List.length_append, rb_len S s k]; rfl

set_option maxRecDepth 100000 in
set_option maxHeartbeats 8000000 in
theorem ref_Get_any (S : ByteArray) (w : World) (hS : S.size ≤ 10000) : Calls Tryz.prog 10 #[.string S] w (GetEnds S w) := by
  have HA := Lib.hid (fun s k hk h0 h1 W => ref_Ask_any S s k hk h0 h1 (by omega) W)
  have hb1 : Below w.heap.size w (w.alloc (.cells #[.int .i64 0, .slice none 0 0, .slice none 0 0] 25)) := (Below.refl _ _).alloc (Nat.le_refl _) _
  have hb2 := hb1.alloc hb1.size (.cells #[.string S, .int .i64 0, .int .i64 0] 56)
  have hb3 := hb2.alloc hb2.size (.cells #[.int .i64 0, .slice none 0 0, .slice none 0 0] 25)
  have bR := ((Blk.new w 25 #[.int .i64 0, .slice none 0 0, .slice none 0 0]).alloc (.cells #[.string S, .int .i64 0, .int .i64 0] 56)).alloc (.cells #[.int .i64 0, .slice none 0 0, .slice none 0 0] 25)
  have bQ := (Blk.new (w.alloc (.cells #[.int .i64 0, .slice none 0 0, .slice none 0 0] 25)) 56 #[.string S, .int .i64 0, .int .i64 0]).alloc (.cells #[.int .i64 0, .slice none 0 0, .slice none 0 0] 25)
  have bP := Blk.new ((w.alloc (.cells #[.int .i64 0, .slice none 0 0, .slice none 0 0] 25)).alloc (.cells #[.string S, .int .i64 0, .int .i64 0] 56)) 25 #[.int .i64 0, .slice none 0 0, .slice none 0 0]
  simp only [World.size_alloc] at bQ bP
  obtain ⟨w3, hw3⟩ : ∃ w3, ((w.alloc (.cells #[.int .i64 0, .slice none 0 0, .slice none 0 0] 25)).alloc (.cells #[.string S, .int .i64 0, .int .i64 0] 56)).alloc (.cells #[.int .i64 0, .slice none 0 0, .slice none 0 0] 25) = w3 := ⟨_, rfl⟩
  rw [hw3] at hb3 bR bQ bP
  have HW3 := Lib.hid hw3
  clear hw3 hb1 hb2
  go_enter Tryz.func10, Tryz.ntmps10
  go_wp2_with fail
  rw [HW3.out]
  refine (HA.out (0, 0) 2 (by omega) (by simp) (by simp) _).mono ?_
  rintro e w4 ⟨rfl, hb4⟩
  have a1r := ask_range (S := S) (s := (0, 0)) (k := 2) (by simp) (by simp)
  have hrd : rd S = rd S := rfl
  conv at hrd => rhs; unfold rd
  generalize ask S (0, 0) 2 = a1 at *
  have bR4 := bR.below hb4 bR.lt
  have bQ4 := bQ.below hb4 bQ.lt
  have bP4 := bP.below hb4 bP.lt
  have hB4 := hb3.trans (hb4.mono hb3.size)
  clear bR bQ bP hb3 hb4
  obtain ⟨x0, x1, x2⟩ := bQ4.three
  have xf := bQ4.frozen
  obtain ⟨y0, y1, y2⟩ := bP4.three
  have yf := bP4.frozen
  -- the parameters are stored
  obtain ⟨⟨s1a, s1b⟩, ps⟩ := a1
  simp only at a1r hrd
  have bR5 := (((bR4.apart (p := ⟨w.heap.size + 1, 0, none⟩) (by simp) (.string S)).apart (p := ⟨w.heap.size + 1, 1, none⟩) (by simp) (.int .i64 s1a)).apart (p := ⟨w.heap.size + 1, 2, none⟩) (by simp) (.int .i64 s1b)).apart (p := ⟨w.heap.size + 1 + 1, 0, none⟩) (by simp <;> omega) (.int .i64 ps)
  have bQ5 := ((((bQ4.set 0 (.string S)).set 1 (.int .i64 s1a)).set 2 (.int .i64 s1b)).apart (p := ⟨w.heap.size + 1 + 1, 0, none⟩) (by simp) (.int .i64 ps))
  have bP5 := (((bP4.apart (p := ⟨w.heap.size + 1, 0, none⟩) (by simp) (.string S)).apart (p := ⟨w.heap.size + 1, 1, none⟩) (by simp) (.int .i64 s1a)).apart (p := ⟨w.heap.size + 1, 2, none⟩) (by simp) (.int .i64 s1b)).set 0 (.int .i64 ps)
  simp only [List.setIfInBounds_toArray, List.set_cons_zero, List.set_cons_succ] at bQ5 bP5
  have hB5 := (((hB4.setCell (p := ⟨w.heap.size + 1, 0, none⟩) (by simp) (.string S)).setCell (p := ⟨w.heap.size + 1, 1, none⟩) (by simp) (.int .i64 s1a)).setCell (p := ⟨w.heap.size + 1, 2, none⟩) (by simp) (.int .i64 s1b)).setCell (p := ⟨w.heap.size + 1 + 1, 0, none⟩) (by simp <;> omega) (.int .i64 ps)
  go_wp2_with fail
  generalize (((w4.setCell ⟨w.heap.size + 1, 0, none⟩ (.string S)).setCell ⟨w.heap.size + 1, 1, none⟩ (.int .i64 s1a)).setCell ⟨w.heap.size + 1, 2, none⟩ (.int .i64 s1b)).setCell ⟨w.heap.size + 1 + 1, 0, none⟩ (.int .i64 ps) = w5 at *
  clear x0 x1 x2 xf y0 y1 y2 yf bR4 bQ4 bP4 hB4
  refine (HA.out (s1a, s1b) 2 (by omega) a1r.1 a1r.2 _).mono ?_
  rintro e w6 ⟨rfl, hb6⟩
  have a2r := ask_range (S := S) (s := (s1a, s1b)) (k := 2) a1r.1 a1r.2
  generalize ask S (s1a, s1b) 2 = a2 at *
  obtain ⟨s2, n⟩ := a2
  simp only at a2r hrd
  have hG : GM w S (w.heap.size + 1 + 1) w6.heap.size ps (.slice none 0 0) (.slice none 0 0) s2 (w6.alloc (.cells #[.string S, .int .i64 s2.1, .int .i64 s2.2] 56)) := by
    have hB6 := hB5.trans (hb6.mono hB5.size)
    exact ⟨hB6.alloc hB6.size _, (bR5.below hb6 bR5.lt).alloc _, (bP5.below hb6 bP5.lt).alloc _, Blk.new _ _ _, a2r.1, a2r.2, by omega, (bP5.below hb6 bP5.lt).lt⟩
  clear bR5 bQ5 bP5 hB5 hb6 a1r
  have hq7 : w6.heap.size < (w6.alloc (.cells #[.string S, .int .i64 s2.1, .int .i64 s2.2] 56)).heap.size := by simp
  go_upto_block 0 with fail
  generalize w6.alloc (.cells #[.string S, .int .i64 s2.1, .int .i64 s2.2] 56) = w7 at *
  have HRD := Lib.hid hrd
  clear hrd
  generalize w6.heap.size = q at *
  obtain ⟨ig, hig, hz0, hz1, hz2⟩ := info_parts info_int
  obtain ⟨m, hm⟩ : ∃ m, min n.toNat 13 = m := ⟨_, rfl⟩
  have hm13 : m ≤ 13 := by omega
  have hrvr := rv_range (S := S) (s := s2) a2r.1 a2r.2
  have HRR := Lib.hid hrvr
  obtain ⟨base, hbase⟩ : ∃ b, w7.heap.size = b := ⟨_, rfl⟩
  rw [hbase] at hq7
  go_cut [] from 32 to 52 (fun wx => ∃ v : Value, GM w S (w.heap.size + 1 + 1) q ps v (.slice none 0 0) (rv S s2 m).2 wx ∧ wx.ownsRow base 3 1 v (rv S s2 m).1.length (icells (rv S s2 m).1) ∧ base ≤ wx.heap.size)
  case first =>
    go_wp2_with fail
    go_loopw [8] (fun i wr => ∃ (k : Nat) (v : Value), k ≤ m ∧ i = .int .i64 k ∧ GM w S (w.heap.size + 1 + 1) q ps v (.slice none 0 0) (rv S s2 k).2 wr ∧ wr.ownsRow base 3 1 v (rv S s2 k).1.length (icells (rv S s2 k).1) ∧ base ≤ wr.heap.size) (fun i _ => 13 - (intOf i).toNat)
    case atStart => exact ⟨0, _, by omega, rfl, hG, World.ownsRow_nil _ _ _ _, by omega⟩
    case round =>
      obtain ⟨k, v, hk, rfl, hG, hO, hbw⟩ := hrel
      have hlen := rv_len S s2 k
      obtain ⟨q0, q1, q2⟩ := hG.rq.three
      by_cases hlt : k < m
      · have j1 : (k : Int) < n := by omega
        have j2 : (k : Int) < 13 := by omega
        have hst : rv S s2 (k + 1) = ((rv S s2 k).1 ++ [(ask S (rv S s2 k).2 0).2], (ask S (rv S s2 k).2 0).1) := rfl
        have hAA := HA.out (rv S s2 k).2 0 (by omega) (HRR.out k).1 (HRR.out k).2
        have har := ask_range (S := S) (s := (rv S s2 k).2) (k := 0) (HRR.out k).1 (HRR.out k).2
        generalize (ask S (rv S s2 k).2 0).2 = t at *
        generalize (ask S (rv S s2 k).2 0).1 = st at *
        generalize (rv S s2 k).2 = st0 at *
        have HS := Lib.hid hst
        have HAA := Lib.hid hAA
        have hP := hG.hP
        have hPq := hG.hq
        clear hst hAA
        generalize (rv S s2 k).1 = L at *
        have hll : L.length ≤ 13 := by omega
        clear hlen
        go_wp2_with fail
        refine (HAA.out _).mono ?_
        rintro e w8 ⟨rfl, hb8⟩
        have hG8 := hG.after hb8
        have bX := Blk.new w8 56 #[.string S, .int .i64 st.1, .int .i64 st.2]
        have hG9 := hG8.after ((Below.refl _ _).alloc (Nat.le_refl _) (.cells #[.string S, .int .i64 st.1, .int .i64 st.2] 56))
        have hO9 := (own_of_block hO (fun i hi => hb8.block i (hO.lt i hi).2)).alloc (.cells #[.string S, .int .i64 st.1, .int .i64 st.2] 56)
        have hbs := hb8.size
        have hgl := bX.lt
        have hqg : q < w8.heap.size := hG8.rq.lt
        obtain ⟨y0, y1, y2⟩ := hG9.rp.three
        have hnb := heap_alloc_new (w8.alloc (.cells #[.string S, .int .i64 st.1, .int .i64 st.2] 56)) (.cells #[.int .i64 t] 3)
        rw [World.size_alloc] at hnb
        have HNB := Lib.hid hnb
        clear hnb
        have hsz3 : base ≤ ((w8.alloc (.cells #[.string S, .int .i64 st.1, .int .i64 st.2] 56)).alloc (.cells #[.int .i64 t] 3)).heap.size := by simp only [World.size_alloc]; omega
        have hG10 := hG9.after ((Below.refl _ _).alloc (Nat.le_refl _) (.cells #[.int .i64 t] 3))
        have bX10 := bX.alloc (.cells #[.int .i64 t] 3)
        have hrow := fun i (hi : v.ownBlock = some i) => (hO.lt i hi).1
        have hrl := fun i (hi : v.ownBlock = some i) => (hO.lt i hi).2
        go_wp2_with (first
          | (at_builtin; (refine wpList_append_own_at _ rfl _ _ 22 rfl base 3 ig (.int .i64 0) 1 8 Tryz.underlying22 hig hz0 hz1 hz2 rfl (by decide) _ L.length _ rfl (hO9.alloc _) ⟨w8.heap.size + 1, 0, none⟩ 1 1 [.int .i64 t] rfl rfl (World.news_of_block (cs := #[.int .i64 t]) (t := 3) (fr := (0, 0)) HNB.out) (by simp [Value.oneCell']) (by simp only [maxLen]; omega) (by omega) hsz3 ?_); intro v7 w11 hown hgr _ hat
             obtain ⟨A1, c1, rfl⟩ := owns_form hown
             have hG11 := hG10.grown hgr (fun i hi => Nat.lt_of_lt_of_le hq7 (hrow i hi))
             have bX11 := bX10.grown hgr (fun e => by have := hrl _ e.symm; omega)
             have hG12 := hG11.setv (.slice A1 (L.length + 1) c1)
             obtain ⟨y0, y1, y2⟩ := hG11.rp.three
             have yf := hG11.rp.frozen
             have bX12 := bX11.apart (p := ⟨w.heap.size + 1 + 1, 1, none⟩) (by simp; omega) (.slice A1 (L.length + 1) c1)
             obtain ⟨z0, z1, z2⟩ := bX12.three
             have hO13 := own_of_block hown (fun i hi => gm_sets w11 (w.heap.size + 1 + 1) q (.slice A1 (L.length + 1) c1) (.string S) (.int .i64 st.1) (.int .i64 st.2) (by have := (hown.lt i hi).1; omega) (by have := (hown.lt i hi).1; omega))
             have hG13 := hG12.setq st har.1 har.2
             obtain ⟨q0, q1, q2⟩ := hG12.rq.three
             have qf := hG12.rq.frozen)
          | fail)
        go_roundw
        case rel => exact ⟨k + 1, _, by omega, by go_num, by rw [HS.out]; exact hG13, by rw [HS.out, icells_snoc, List.length_append]; exact hO13, by simp only [World.size_setCell]; exact Nat.le_trans hsz3 hgr.size⟩
        case measure => simp [intOf]; omega
      · have hk9 : k = m := by omega
        have hcc : ¬ (k : Int) < n ∨ ((k : Int) < n ∧ ¬ (k : Int) < 13) := by omega
        rw [hk9] at hG hO
        clear hk9 hlen
        rcases hcc with j1 | ⟨j1, j2⟩
        all_goals
          go_wp2_with fail
          go_meet
          exact ⟨v, hG, hO, hbw⟩
  case rest =>
    obtain ⟨v, hG, hO, hbw⟩ := hcut
    have HRD2 := Lib.hid (show rd S = _ by rw [HRD.out, hm])
    have hkl : (rv S s2 m).1.length ≤ 13 := by rw [rv_len]; omega
    have hsr := HRR.out m
    generalize (rv S s2 m).2 = s3 at *
    generalize (rv S s2 m).1 = vs at *
    obtain ⟨q0, q1, q2⟩ := hG.rq.three
    have HAA := Lib.hid (HA.out s3 2 (by omega) hsr.1 hsr.2)
    have har := ask_range (S := S) (s := s3) (k := 2) hsr.1 hsr.2
    have HN := Lib.hid (fun t W => ref_numbered_any t W)
    generalize ask S s3 2 = a3 at *
    obtain ⟨s4, n2⟩ := a3
    simp only at har HRD2 HAA
    have HRB := Lib.hid (rb_range (S := S) (s := s4) har.1 har.2)
    obtain ⟨m2, hm2⟩ : ∃ m2, min n2.toNat 201 = m2 := ⟨_, rfl⟩
    have hm201 : m2 ≤ 201 := by omega
    have HNN := HN
    go_wp2_with fail
    refine (HAA.out _).mono ?_
    rintro e w9 ⟨rfl, hb9⟩
    have hG9 := hG.after hb9
    have hV9 := own_of_block hO (fun i hi => hb9.block i (hO.lt i hi).2)
    have hz9 := hb9.size
    have hV10 := hV9.alloc (.cells #[.string S, .int .i64 s4.1, .int .i64 s4.2] 56)
    have hG10 := hG9.next s4 har.1 har.2
    have hvb : ∀ i, v.ownBlock = some i → base ≤ i ∧ i < w9.heap.size := fun i hi => ⟨(hV9.lt i hi).1, (hV9.lt i hi).2⟩
    have hq9 : q < w9.heap.size := by omega
    have hPq := hG.hq
    have hz10 : w9.heap.size < (w9.alloc (.cells #[.string S, .int .i64 s4.1, .int .i64 s4.2] 56)).heap.size := by simp
    go_upto_block 2 with fail
    generalize w9.alloc (.cells #[.string S, .int .i64 s4.1, .int .i64 s4.2] 56) = w10 at *
    clear q0 q1 q2 hG hO hG9 hV9 hb9
    generalize w9.heap.size = q2 at *
    obtain ⟨base2, hbase2⟩ : ∃ b, w10.heap.size = b := ⟨_, rfl⟩
    have hq2b : q2 < base2 := by omega
    go_cut [] from 58 to 96 (fun wx => ∃ u : Value, GM w S (w.heap.size + 1 + 1) q2 ps v u (rb S s4 m2).2 wx ∧ wx.ownsRow base2 36 2 u (rb S s4 m2).1.length (ncells (rb S s4 m2).1) ∧ wx.ownsRow base 3 1 v vs.length (icells vs) ∧ base2 ≤ wx.heap.size)
    case first =>
      go_wp2_with fail
      go_loopw [13] (fun i wr => ∃ (k2 : Nat) (u : Value), k2 ≤ m2 ∧ i = .int .i64 k2 ∧ GM w S (w.heap.size + 1 + 1) q2 ps v u (rb S s4 k2).2 wr ∧ wr.ownsRow base2 36 2 u (rb S s4 k2).1.length (ncells (rb S s4 k2).1) ∧ wr.ownsRow base 3 1 v vs.length (icells vs) ∧ base2 ≤ wr.heap.size) (fun i _ => 201 - (intOf i).toNat)
      case atStart => exact ⟨0, _, by omega, rfl, hG10, World.ownsRow_nil _ _ _ _, hV10, by omega⟩
      case round =>
        clear hG10 hV10
        obtain ⟨k2, u, hk2, rfl, hG, hU, hV, hbw2⟩ := hrel
        have hlen := rb_len S s4 k2
        obtain ⟨q0, q1, q2c⟩ := hG.rq.three
        by_cases hlt : k2 < m2
        · have i1 : (k2 : Int) < n2 := by omega
          have i2 : (k2 : Int) < 201 := by omega
          have hst : rb S s4 (k2 + 1) = ((rb S s4 k2).1 ++ [((ask S (rb S s4 k2).2 0).2, (num S (ask S (rb S s4 k2).2 0).1 (ask S (rb S s4 k2).2 0).2).2)], (num S (ask S (rb S s4 k2).2 0).1 (ask S (rb S s4 k2).2 0).2).1) := rfl
          have hAA := HA.out (rb S s4 k2).2 0 (by omega) (HRB.out k2).1 (HRB.out k2).2
          have hx1 := ask_range (S := S) (s := (rb S s4 k2).2) (k := 0) (HRB.out k2).1 (HRB.out k2).2
          generalize (ask S (rb S s4 k2).2 0).2 = t at *
          generalize (ask S (rb S s4 k2).2 0).1 = x1 at *
          generalize (rb S s4 k2).2 = st0 at *
          have HAA := Lib.hid hAA
          have HN := Lib.hid (HNN.out t)
          clear hAA
          generalize (rb S s4 k2).1 = xs at *
          have hll : xs.length ≤ 201 := by omega
          clear hlen
          have hrow := fun i (hi : u.ownBlock = some i) => (hU.lt i hi).1
          go_wp2_with fail
          refine (HAA.out _).mono ?_
          rintro e w11 ⟨rfl, hb11⟩
          have hz11 := hb11.size
          have hG11 := hG.after hb11
          have hG12 := hG11.after ((Below.refl _ _).alloc (Nat.le_refl _) (.cells #[.string S, .int .i64 x1.1, .int .i64 x1.2] 56))
          have bX12 := Blk.new w11 56 #[.string S, .int .i64 x1.1, .int .i64 x1.2]
          have hU12 := (own_of_block hU (fun i hi => hb11.block i (hU.lt i hi).2)).alloc (.cells #[.string S, .int .i64 x1.1, .int .i64 x1.2] 56)
          have hV12 := (own_of_block hV (fun i hi => hb11.block i (hV.lt i hi).2)).alloc (.cells #[.string S, .int .i64 x1.1, .int .i64 x1.2] 56)
          have hul := fun i (hi : u.ownBlock = some i) => Nat.lt_of_lt_of_le (hU.lt i hi).2 hz11
          have hqX : q2 < w11.heap.size := by omega
          have hz12 : w11.heap.size < (w11.alloc (.cells #[.string S, .int .i64 x1.1, .int .i64 x1.2] 56)).heap.size := by simp
          clear hU hV hG hG11 hb11
          rcases nkind_three t with hkd | hkd | hkd
          · have hnum : num S x1 t = (x1, 0) := by unfold num; rw [hkd]; rfl
            rw [hnum] at hst
            rw [hkd] at HN
            have HS := Lib.hid hst
            clear hst hnum hkd
            go_upto_region 21 with (go_at_call 21; refine (HN.out _).mono ?_; rintro e wz ⟨rfl, rfl⟩)
            generalize w11.alloc (.cells #[.string S, .int .i64 x1.1, .int .i64 x1.2] 56) = w14 at *
            have hG14 := hG12
            have bX14 := bX12
            have hU14 := hU12
            have hV14 := hV12
            have hz14 := hz12
            have hx2 := hx1
            have bN := Blk.new w14 36 #[.int .i64 t, .int .i64 0]
            have hN15 : Nodes (w14.alloc (.cells #[.int .i64 t, .int .i64 0] 36)) (w14.heap.size + 1) (some ⟨w14.heap.size, 0, none⟩) [(t, 0)] := Nodes.of_blk bN (Nat.lt_succ_self _)
            have hU15 := hU14.alloc (.cells #[.int .i64 t, .int .i64 0] 36)
            have hV15 := hV14.alloc (.cells #[.int .i64 t, .int .i64 0] 36)
            have hG15 := hG14.after ((Below.refl _ _).alloc (Nat.le_refl _) (.cells #[.int .i64 t, .int .i64 0] 36))
            have bX15 := bX14.alloc (.cells #[.int .i64 t, .int .i64 0] 36)
            have hs15 : base2 ≤ (w14.alloc (.cells #[.int .i64 t, .int .i64 0] 36)).heap.size := by rw [World.size_alloc]; omega
            obtain ⟨p0, p1, p2⟩ := hG14.rp.three
            go_wp2_with (first
              | (at_builtin; refine append_nodes rfl _ _ rfl base2 hs15 _ _ rfl hU15 _ (some ⟨w14.heap.size, 0, none⟩) 1 [(t, 0)] 1 rfl rfl (fun e => by cases e) hN15 (by simp; omega) ?_; intro u9 w16 hown hgr hat; rw [List.length_append, List.length_singleton] at hown
                 obtain ⟨A1, c1, rfl⟩ := owns_form hown
                 have hG16 := hG15.grown hgr (fun i hi => Nat.lt_of_lt_of_le hq2b (hrow i hi))
                 have bX16 := bX15.grown hgr (fun e => by have := hul _ e.symm; omega)
                 have hV16 := own_of_block hV15 (fun i hi => hgr.block i (hV15.lt i hi).2 (fun e => by have := hrow _ e.symm; have := hvb i hi; omega))
                 have hG17 := hG16.setu (.slice A1 (xs.length + 1) c1)
                 obtain ⟨y0, y1, y2⟩ := hG16.rp.three
                 have yf := hG16.rp.frozen
                 have bX17 := bX16.apart (p := ⟨w.heap.size + 1 + 1, 2, none⟩) (by simp; omega) (.slice A1 (xs.length + 1) c1)
                 obtain ⟨z0, z1, z2⟩ := bX17.three
                 have hU18 := own_setCell (own_setCell (own_setCell (own_setCell hown ⟨w.heap.size + 1 + 1, 2, none⟩ (.slice A1 (xs.length + 1) c1) (fun i hi => by have := (hown.lt i hi).1; simp; omega)) ⟨q2, 0, none⟩ (.string S) (fun i hi => by have := (hown.lt i hi).1; simp; omega)) ⟨q2, 1, none⟩ (.int .i64 x1.1) (fun i hi => by have := (hown.lt i hi).1; simp; omega)) ⟨q2, 2, none⟩ (.int .i64 x1.2) (fun i hi => by have := (hown.lt i hi).1; simp; omega)
                 have hV18 := own_setCell (own_setCell (own_setCell (own_setCell hV16 ⟨w.heap.size + 1 + 1, 2, none⟩ (.slice A1 (xs.length + 1) c1) (fun i hi => by have := hvb i hi; simp; omega)) ⟨q2, 0, none⟩ (.string S) (fun i hi => by have := hvb i hi; simp; omega)) ⟨q2, 1, none⟩ (.int .i64 x1.1) (fun i hi => by have := hvb i hi; simp; omega)) ⟨q2, 2, none⟩ (.int .i64 x1.2) (fun i hi => by have := hvb i hi; simp; omega)
                 have hG18 := hG17.setq x1 hx2.1 hx2.2
                 obtain ⟨q0', q1', q2'⟩ := hG17.rq.three
                 have qf := hG17.rq.frozen)
              | fail)
            go_roundw
            case rel => exact ⟨k2 + 1, _, by omega, by go_num, by rw [HS.out]; exact hG18, by rw [HS.out, List.length_append]; exact hU18, hV18, by simp only [World.size_setCell]; exact Nat.le_trans hs15 hgr.size⟩
            case measure => simp [intOf]; omega
          · have hnum : num S x1 t = ask S x1 2 := by unfold num; rw [hkd]; rfl
            have HAB := Lib.hid (HA.out x1 2 (by omega) hx1.1 hx1.2)
            have hx2 := ask_range (S := S) (s := x1) (k := 2) hx1.1 hx1.2
            rw [hnum] at hst
            rw [hkd] at HN
            generalize (ask S x1 2).2 = nv at *
            generalize (ask S x1 2).1 = x2 at *
            have HS := Lib.hid hst
            clear hst hnum hkd
            go_upto_region 21 with (first
              | (go_at_call 21; refine (HN.out _).mono ?_; rintro e wz ⟨rfl, rfl⟩)
              | (go_at_call 25; refine (HAB.out _).mono ?_; rintro e w13 ⟨rfl, hb13⟩
                 have bX13 := bX12.below hb13 bX12.lt
                 obtain ⟨x0, x1', x2'⟩ := bX13.three
                 have xf := bX13.frozen)
              | fail)
            have hz13 := hb13.size
            have bX14 := ((bX13.set 0 (.string S)).set 1 (.int .i64 x2.1)).set 2 (.int .i64 x2.2)
            simp only [List.setIfInBounds_toArray, List.set_cons_zero, List.set_cons_succ] at bX14
            have hG14 := (((hG12.after hb13).away (a := ⟨w11.heap.size, 0, none⟩) hqX (.string S)).away (a := ⟨w11.heap.size, 1, none⟩) hqX (.int .i64 x2.1)).away (a := ⟨w11.heap.size, 2, none⟩) hqX (.int .i64 x2.2)
            have hU14 := own_setCell (own_setCell (own_setCell (own_of_block hU12 (fun i hi => hb13.block i (hU12.lt i hi).2)) ⟨w11.heap.size, 0, none⟩ (.string S) (fun i hi => by have := hul i hi; simp; omega)) ⟨w11.heap.size, 1, none⟩ (.int .i64 x2.1) (fun i hi => by have := hul i hi; simp; omega)) ⟨w11.heap.size, 2, none⟩ (.int .i64 x2.2) (fun i hi => by have := hul i hi; simp; omega)
            have hV14 := own_setCell (own_setCell (own_setCell (own_of_block hV12 (fun i hi => hb13.block i (hV12.lt i hi).2)) ⟨w11.heap.size, 0, none⟩ (.string S) (fun i hi => by have := hvb i hi; simp; omega)) ⟨w11.heap.size, 1, none⟩ (.int .i64 x2.1) (fun i hi => by have := hvb i hi; simp; omega)) ⟨w11.heap.size, 2, none⟩ (.int .i64 x2.2) (fun i hi => by have := hvb i hi; simp; omega)
            have hz14 : w11.heap.size < (((w13.setCell ⟨w11.heap.size, 0, none⟩ (.string S)).setCell ⟨w11.heap.size, 1, none⟩ (.int .i64 x2.1)).setCell ⟨w11.heap.size, 2, none⟩ (.int .i64 x2.2)).heap.size := by simp only [World.size_setCell]; omega
            generalize ((w13.setCell ⟨w11.heap.size, 0, none⟩ (.string S)).setCell ⟨w11.heap.size, 1, none⟩ (.int .i64 x2.1)).setCell ⟨w11.heap.size, 2, none⟩ (.int .i64 x2.2) = w14 at *
            have bN := Blk.new w14 36 #[.int .i64 t, .int .i64 nv]
            have hN15 : Nodes (w14.alloc (.cells #[.int .i64 t, .int .i64 nv] 36)) (w14.heap.size + 1) (some ⟨w14.heap.size, 0, none⟩) [(t, nv)] := Nodes.of_blk bN (Nat.lt_succ_self _)
            have hU15 := hU14.alloc (.cells #[.int .i64 t, .int .i64 nv] 36)
            have hV15 := hV14.alloc (.cells #[.int .i64 t, .int .i64 nv] 36)
            have hG15 := hG14.after ((Below.refl _ _).alloc (Nat.le_refl _) (.cells #[.int .i64 t, .int .i64 nv] 36))
            have bX15 := bX14.alloc (.cells #[.int .i64 t, .int .i64 nv] 36)
            have hs15 : base2 ≤ (w14.alloc (.cells #[.int .i64 t, .int .i64 nv] 36)).heap.size := by rw [World.size_alloc]; omega
            obtain ⟨p0, p1, p2⟩ := hG14.rp.three
            go_wp2_with (first
              | (at_builtin; refine append_nodes rfl _ _ rfl base2 hs15 _ _ rfl hU15 _ (some ⟨w14.heap.size, 0, none⟩) 1 [(t, nv)] 1 rfl rfl (fun e => by cases e) hN15 (by simp; omega) ?_; intro u9 w16 hown hgr hat; rw [List.length_append, List.length_singleton] at hown
                 obtain ⟨A1, c1, rfl⟩ := owns_form hown
                 have hG16 := hG15.grown hgr (fun i hi => Nat.lt_of_lt_of_le hq2b (hrow i hi))
                 have bX16 := bX15.grown hgr (fun e => by have := hul _ e.symm; omega)
                 have hV16 := own_of_block hV15 (fun i hi => hgr.block i (hV15.lt i hi).2 (fun e => by have := hrow _ e.symm; have := hvb i hi; omega))
                 have hG17 := hG16.setu (.slice A1 (xs.length + 1) c1)
                 obtain ⟨y0, y1, y2⟩ := hG16.rp.three
                 have yf := hG16.rp.frozen
                 have bX17 := bX16.apart (p := ⟨w.heap.size + 1 + 1, 2, none⟩) (by simp; omega) (.slice A1 (xs.length + 1) c1)
                 obtain ⟨z0, z1, z2⟩ := bX17.three
                 have hU18 := own_setCell (own_setCell (own_setCell (own_setCell hown ⟨w.heap.size + 1 + 1, 2, none⟩ (.slice A1 (xs.length + 1) c1) (fun i hi => by have := (hown.lt i hi).1; simp; omega)) ⟨q2, 0, none⟩ (.string S) (fun i hi => by have := (hown.lt i hi).1; simp; omega)) ⟨q2, 1, none⟩ (.int .i64 x2.1) (fun i hi => by have := (hown.lt i hi).1; simp; omega)) ⟨q2, 2, none⟩ (.int .i64 x2.2) (fun i hi => by have := (hown.lt i hi).1; simp; omega)
                 have hV18 := own_setCell (own_setCell (own_setCell (own_setCell hV16 ⟨w.heap.size + 1 + 1, 2, none⟩ (.slice A1 (xs.length + 1) c1) (fun i hi => by have := hvb i hi; simp; omega)) ⟨q2, 0, none⟩ (.string S) (fun i hi => by have := hvb i hi; simp; omega)) ⟨q2, 1, none⟩ (.int .i64 x2.1) (fun i hi => by have := hvb i hi; simp; omega)) ⟨q2, 2, none⟩ (.int .i64 x2.2) (fun i hi => by have := hvb i hi; simp; omega)
                 have hG18 := hG17.setq x2 hx2.1 hx2.2
                 obtain ⟨q0', q1', q2'⟩ := hG17.rq.three
                 have qf := hG17.rq.frozen)
              | fail)
            go_roundw
            case rel => exact ⟨k2 + 1, _, by omega, by go_num, by rw [HS.out]; exact hG18, by rw [HS.out, List.length_append]; exact hU18, hV18, by simp only [World.size_setCell]; exact Nat.le_trans hs15 hgr.size⟩
            case measure => simp [intOf]; omega
          · have hnum : num S x1 t = ask S x1 3 := by unfold num; rw [hkd]; rfl
            have HAB := Lib.hid (HA.out x1 3 (by omega) hx1.1 hx1.2)
            have hx2 := ask_range (S := S) (s := x1) (k := 3) hx1.1 hx1.2
            rw [hnum] at hst
            rw [hkd] at HN
            generalize (ask S x1 3).2 = nv at *
            generalize (ask S x1 3).1 = x2 at *
            have HS := Lib.hid hst
            clear hst hnum hkd
            go_upto_region 21 with (first
              | (go_at_call 21; refine (HN.out _).mono ?_; rintro e wz ⟨rfl, rfl⟩)
              | (go_at_call 25; refine (HAB.out _).mono ?_; rintro e w13 ⟨rfl, hb13⟩
                 have bX13 := bX12.below hb13 bX12.lt
                 obtain ⟨x0, x1', x2'⟩ := bX13.three
                 have xf := bX13.frozen)
              | fail)
            have hz13 := hb13.size
            have bX14 := ((bX13.set 0 (.string S)).set 1 (.int .i64 x2.1)).set 2 (.int .i64 x2.2)
            simp only [List.setIfInBounds_toArray, List.set_cons_zero, List.set_cons_succ] at bX14
            have hG14 := (((hG12.after hb13).away (a := ⟨w11.heap.size, 0, none⟩) hqX (.string S)).away (a := ⟨w11.heap.size, 1, none⟩) hqX (.int .i64 x2.1)).away (a := ⟨w11.heap.size, 2, none⟩) hqX (.int .i64 x2.2)
            have hU14 := own_setCell (own_setCell (own_setCell (own_of_block hU12 (fun i hi => hb13.block i (hU12.lt i hi).2)) ⟨w11.heap.size, 0, none⟩ (.string S) (fun i hi => by have := hul i hi; simp; omega)) ⟨w11.heap.size, 1, none⟩ (.int .i64 x2.1) (fun i hi => by have := hul i hi; simp; omega)) ⟨w11.heap.size, 2, none⟩ (.int .i64 x2.2) (fun i hi => by have := hul i hi; simp; omega)
            have hV14 := own_setCell (own_setCell (own_setCell (own_of_block hV12 (fun i hi => hb13.block i (hV12.lt i hi).2)) ⟨w11.heap.size, 0, none⟩ (.string S) (fun i hi => by have := hvb i hi; simp; omega)) ⟨w11.heap.size, 1, none⟩ (.int .i64 x2.1) (fun i hi => by have := hvb i hi; simp; omega)) ⟨w11.heap.size, 2, none⟩ (.int .i64 x2.2) (fun i hi => by have := hvb i hi; simp; omega)
            have hz14 : w11.heap.size < (((w13.setCell ⟨w11.heap.size, 0, none⟩ (.string S)).setCell ⟨w11.heap.size, 1, none⟩ (.int .i64 x2.1)).setCell ⟨w11.heap.size, 2, none⟩ (.int .i64 x2.2)).heap.size := by simp only [World.size_setCell]; omega
            generalize ((w13.setCell ⟨w11.heap.size, 0, none⟩ (.string S)).setCell ⟨w11.heap.size, 1, none⟩ (.int .i64 x2.1)).setCell ⟨w11.heap.size, 2, none⟩ (.int .i64 x2.2) = w14 at *
            have bN := Blk.new w14 36 #[.int .i64 t, .int .i64 nv]
            have hN15 : Nodes (w14.alloc (.cells #[.int .i64 t, .int .i64 nv] 36)) (w14.heap.size + 1) (some ⟨w14.heap.size, 0, none⟩) [(t, nv)] := Nodes.of_blk bN (Nat.lt_succ_self _)
            have hU15 := hU14.alloc (.cells #[.int .i64 t, .int .i64 nv] 36)
            have hV15 := hV14.alloc (.cells #[.int .i64 t, .int .i64 nv] 36)
            have hG15 := hG14.after ((Below.refl _ _).alloc (Nat.le_refl _) (.cells #[.int .i64 t, .int .i64 nv] 36))
            have bX15 := bX14.alloc (.cells #[.int .i64 t, .int .i64 nv] 36)
            have hs15 : base2 ≤ (w14.alloc (.cells #[.int .i64 t, .int .i64 nv] 36)).heap.size := by rw [World.size_alloc]; omega
            obtain ⟨p0, p1, p2⟩ := hG14.rp.three
            go_wp2_with (first
              | (at_builtin; refine append_nodes rfl _ _ rfl base2 hs15 _ _ rfl hU15 _ (some ⟨w14.heap.size, 0, none⟩) 1 [(t, nv)] 1 rfl rfl (fun e => by cases e) hN15 (by simp; omega) ?_; intro u9 w16 hown hgr hat; rw [List.length_append, List.length_singleton] at hown
                 obtain ⟨A1, c1, rfl⟩ := owns_form hown
                 have hG16 := hG15.grown hgr (fun i hi => Nat.lt_of_lt_of_le hq2b (hrow i hi))
                 have bX16 := bX15.grown hgr (fun e => by have := hul _ e.symm; omega)
                 have hV16 := own_of_block hV15 (fun i hi => hgr.block i (hV15.lt i hi).2 (fun e => by have := hrow _ e.symm; have := hvb i hi; omega))
                 have hG17 := hG16.setu (.slice A1 (xs.length + 1) c1)
                 obtain ⟨y0, y1, y2⟩ := hG16.rp.three
                 have yf := hG16.rp.frozen
                 have bX17 := bX16.apart (p := ⟨w.heap.size + 1 + 1, 2, none⟩) (by simp; omega) (.slice A1 (xs.length + 1) c1)
                 obtain ⟨z0, z1, z2⟩ := bX17.three
                 have hU18 := own_setCell (own_setCell (own_setCell (own_setCell hown ⟨w.heap.size + 1 + 1, 2, none⟩ (.slice A1 (xs.length + 1) c1) (fun i hi => by have := (hown.lt i hi).1; simp; omega)) ⟨q2, 0, none⟩ (.string S) (fun i hi => by have := (hown.lt i hi).1; simp; omega)) ⟨q2, 1, none⟩ (.int .i64 x2.1) (fun i hi => by have := (hown.lt i hi).1; simp; omega)) ⟨q2, 2, none⟩ (.int .i64 x2.2) (fun i hi => by have := (hown.lt i hi).1; simp; omega)
                 have hV18 := own_setCell (own_setCell (own_setCell (own_setCell hV16 ⟨w.heap.size + 1 + 1, 2, none⟩ (.slice A1 (xs.length + 1) c1) (fun i hi => by have := hvb i hi; simp; omega)) ⟨q2, 0, none⟩ (.string S) (fun i hi => by have := hvb i hi; simp; omega)) ⟨q2, 1, none⟩ (.int .i64 x2.1) (fun i hi => by have := hvb i hi; simp; omega)) ⟨q2, 2, none⟩ (.int .i64 x2.2) (fun i hi => by have := hvb i hi; simp; omega)
                 have hG18 := hG17.setq x2 hx2.1 hx2.2
                 obtain ⟨q0', q1', q2'⟩ := hG17.rq.three
                 have qf := hG17.rq.frozen)
              | fail)
            go_roundw
            case rel => exact ⟨k2 + 1, _, by omega, by go_num, by rw [HS.out]; exact hG18, by rw [HS.out, List.length_append]; exact hU18, hV18, by simp only [World.size_setCell]; exact Nat.le_trans hs15 hgr.size⟩
            case measure => simp [intOf]; omega
        · have hk9 : k2 = m2 := by omega
          have hcc : ¬ (k2 : Int) < n2 ∨ ((k2 : Int) < n2 ∧ ¬ (k2 : Int) < 201) := by omega
          rw [hk9] at hG hU
          clear hk9 hlen
          rcases hcc with i1 | ⟨i1, i2⟩
          all_goals
            go_wp2_with fail
            go_meet
            exact ⟨u, hG, hU, hV, hbw2⟩
    case rest =>
      obtain ⟨u, hG, hU, hV, hbw2⟩ := hcut
      have hrd1 : (rd S).1 = (ps, vs, (rb S s4 m2).1) := by rw [HRD2.out, hm2]
      have hnb := rb_NB S s4 m2
      have hl2 : (rb S s4 m2).1.length ≤ 201 := by rw [rb_len]; omega
      obtain ⟨A1, c1, rfl, o1, o2, o3, o4⟩ := own_ints2 hV
      obtain ⟨A2, c2, rfl, r1, r2, r3, r4⟩ := own_nodes2 hU
      clear hU hV hm2
      generalize (rb S s4 m2).1 = xs at *
      generalize (rb S s4 m2).2 = st at *
      have hOk : Prg.Ok ⟨ps, A1, c1, vs, A2, c2, xs⟩ wc := ⟨o3, r3, by show vs.length ≤ 1000000; omega, by show xs.length ≤ 1000000; omega, o1, r1, o2, r2⟩
      have hiff : (pcheck ps vs xs = 0 ∧ cput ps vs xs = S.data.toList) ↔ fits S := by unfold fits; rw [hrd1]
      have HP := Lib.hid (ref_Put_any ⟨ps, A1, c1, vs, A2, c2, xs⟩ hnb wc hOk)
      simp only at HP
      have hRP := hG.hP
      have hA9 : ∀ ad, A1 = some ad → ad.block ≠ w.heap.size := fun ad e => by have := o4 ad e; omega
      have hB9 : ∀ ad, A2 = some ad → ad.block ≠ w.heap.size := fun ad e => by have := r4 ad e; omega
      obtain ⟨y0, y1, y2⟩ := hG.rp.three
      clear o1 o2 o3 o4 r1 r2 r3 r4
      go_wp2_with fail
      refine HP.out.mono ?_
      rintro e w5 ⟨rfl, hb5⟩
      have hG5 := hG.after hb5
      have hOk5 := hOk.at hb5
      obtain ⟨p0, p1, p2⟩ := hG5.rp.three
      obtain ⟨r0, r1, r2⟩ := hG5.r.three
      have rf := hG5.r.frozen
      have h05 := hG5.below
      have hsets : ∀ u0 u1 u2, Below w.heap.size w (((w5.setCell ⟨w.heap.size, 0, none⟩ u0).setCell ⟨w.heap.size, 1, none⟩ u1).setCell ⟨w.heap.size, 2, none⟩ u2) := fun u0 u1 u2 => ((h05.setCell (p := ⟨w.heap.size, 0, none⟩) (Nat.le_refl _) u0).setCell (p := ⟨w.heap.size, 1, none⟩) (Nat.le_refl _) u1).setCell (p := ⟨w.heap.size, 2, none⟩) (Nat.le_refl _) u2
      have HSS := Lib.hid hsets
      have HOK := Lib.hid (fun u0 u1 u2 => show Prg.Ok ⟨ps, A1, c1, vs, A2, c2, xs⟩ (((w5.setCell ⟨w.heap.size, 0, none⟩ u0).setCell ⟨w.heap.size, 1, none⟩ u1).setCell ⟨w.heap.size, 2, none⟩ u2) from
        ⟨row_set (row_set (row_set hOk5.vars _ _ hA9) _ _ hA9) _ _ hA9, nodes_set (nodes_set (nodes_set hOk5.body _ _ hB9) _ _ hB9) _ _ hB9, hOk5.lv, hOk5.lx, hOk5.cv, hOk5.ce, hOk5.nv, hOk5.nb⟩)
      obtain ⟨pc, hpc⟩ : ∃ pc, pcheck ps vs xs = pc := ⟨_, rfl⟩
      clear h05 hsets hOk5 hG5 hb5
      try clear HA
      try clear HW3
      try clear hig
      try clear hz0
      try clear hz1
      try clear hz2
      try clear hm13
      try clear HRR
      try clear HRD
      try clear hbase
      try clear hq7
      try clear hbw
      try clear hkl
      try clear hsr
      try clear HAA
      try clear har
      try clear HN
      try clear HNN
      try clear HRB
      try clear hm201
      try clear hz9
      try clear hvb
      try clear hq9
      try clear hPq
      try clear hz10
      try clear hbase2
      try clear hq2b
      try clear hbw2
      try clear hl2
      try clear j1
      try clear j2
      try clear i1
      try clear i2
      try clear a2r
      try clear hcc
      try clear y0
      try clear y1
      try clear y2
      try clear q0
      try clear q1
      try clear q2c
      try clear HP
      try clear hOk
      try clear hG
      try clear hRP
      try clear hlt
      try clear hk2
      try clear hrvr
      try clear hS
      by_cases h0 : pc = 0
      · subst h0
        have hpp : pput ps vs xs = cput ps vs xs := by unfold pput; rw [if_pos hpc]
        rw [hpp, hpc]
        obtain ⟨T, hT⟩ : ∃ T : ByteArray, (⟨(cput ps vs xs).toArray⟩ : ByteArray) = T := ⟨_, rfl⟩
        rw [hT]
        have hTl : T.data.toList = cput ps vs xs := by rw [← hT]
        by_cases hTS : T = S
        · subst hTS
          have hf : fits T := hiff.1 ⟨hpc, hTl.symm⟩
          have HF := Lib.hid hf
          have HRD := Lib.hid hrd1
          clear hT hTl hiff hf hrd1 hpc hpp hnb hA9 hB9 HRD2
          go_wp2_with fail
          refine bodyPost_ret (v := .tuple #[.agg #[.int .i64 ps, .slice A1 vs.length c1, .slice A2 xs.length c2], .int .i64 0]) (by simp [results, Tryz.results10, go_sem, r0, r1, r2]) rfl ?_
          exact ⟨HSS.out _ _ _, .inl ⟨HF.out, A1, c1, A2, c2, by rw [HRD.out], by rw [HRD.out]; exact HOK.out _ _ _⟩⟩
        · have hf : ¬ fits S := fun q => hTS (by
            have := (hiff.2 q).2
            rw [← hTl] at this
            exact ByteArray.ext (Array.toList_inj.1 this))
          have hbe : (T.toList == S.toList) = false := by
            rw [beq_eq_false_iff_ne]
            intro q
            rw [ByteArray.toList_eq, ByteArray.toList_eq] at q
            exact hTS (ByteArray.ext (Array.toList_inj.1 q))
          have HF := Lib.hid hf
          clear hT hTl hiff hf hpc hpp hnb hA9 hB9 HOK hTS hrd1 HRD2
          go_wp2_with fail
          refine bodyPost_ret (v := .tuple #[.agg #[.int .i64 0, .slice none 0 0, .slice none 0 0], .int .i64 12]) (by simp [results, Tryz.results10, go_sem, r0, r1, r2]) rfl ?_
          exact ⟨HSS.out _ _ _, .inr ⟨HF.out, none, 0, none, 0, rfl, zero_ok _⟩⟩
      · have hf : ¬ fits S := fun q => h0 (by rw [← hpc]; exact (hiff.2 q).1)
        have e1 : (pc == 0) = false := by simpa using h0
        have e2 : (pc != 0) = true := by simpa using h0
        have HF := Lib.hid hf
        rw [hpc]
        generalize (⟨(pput ps vs xs).toArray⟩ : ByteArray) = T at *
        clear hiff hf hpc hnb hA9 hB9 HOK h0 hrd1 HRD2
        go_wp2_with fail
        refine bodyPost_ret (v := .tuple #[.agg #[.int .i64 0, .slice none 0 0, .slice none 0 0], .int .i64 12]) (by simp [results, Tryz.results10, go_sem, r0, r1, r2]) rfl ?_
        exact ⟨HSS.out _ _ _, .inr ⟨HF.out, none, 0, none, 0, rfl, zero_ok _⟩⟩

end Go.Proofs.YtpjijdgenojpcaaGreat.Code
