/-
  The reference of deltas, walked: a delta is read, as well as can be.
-/
import Derived.Test.YthkhonkibigdaaaGreatDeltaRefG
import Derived.Test.YthkhonkibigdaaaGreatCodeRefC
import Derived.Deep.CutBlock
import Derived.Deep.CutRange
namespace Go.Proofs.YthkhonkibigdaaaGreat.Delta
open Go.RowKit Leb Mem Wire _root_.Go.Proofs.YthkhonkibigdaaaGreat.Arena _root_.Go.Proofs.YthkhonkibigdaaaGreat.Kinds _root_.Go.Proofs.YthkhonkibigdaaaGreat.Code _root_.Go.Proofs.YthkhonkibigdaaaGreat.Path
set_option linter.unusedVariables false
attribute [local go_sem ↓] Go.wp_at_zero Go.wp_at_succ

/-- What Read's variables hold. -/
structure RM (w : World) (S : ByteArray) (v : Value) (op n : Int) (st : Int × Int) (wr : World) : Prop where
  below : Below w.heap.size w wr
  r1 : Blk wr (w.heap.size + 1) 64 #[.string ⟨#[]⟩, .int .i64 0, .int .i64 0]
  r2 : Blk wr (w.heap.size + 1 + 1) 24 #[.slice none 0 0, .int .i64 0, .int .i64 0]
  rd : Blk wr (w.heap.size + 1 + 1 + 1) 24 #[v, .int .i64 op, .int .i64 n]
  rq : Blk wr w.heap.size 64 #[.string S, .int .i64 st.1, .int .i64 st.2]
  s0 : 0 ≤ st.1
  s1 : st.1 ≤ S.size
section
variable {w wr w' : World} {S : ByteArray} {v : Value} {op n : Int} {st : Int × Int}
theorem RM.after (h : RM w S v op n st wr) (hb : Below wr.heap.size wr w') : RM w S v op n st w' :=
  ⟨h.below.trans (hb.mono h.below.size), h.r1.below hb h.r1.lt, h.r2.below hb h.r2.lt, h.rd.below hb h.rd.lt, h.rq.below hb h.rq.lt, h.s0, h.s1⟩
theorem RM.grown {row : Option Nat} (h : RM w S v op n st wr) (hg : wr.grownBy w' row) (hr : ∀ k, row = some k → w.heap.size + 4 ≤ k) : RM w S v op n st w' :=
  ⟨h.below.grown hg h.below.size (fun i e => by have := hr i e; omega), h.r1.grown hg (fun e => by have := hr _ e.symm; omega), h.r2.grown hg (fun e => by have := hr _ e.symm; omega), h.rd.grown hg (fun e => by have := hr _ e.symm; omega), h.rq.grown hg (fun e => by have := hr _ e.symm; omega), h.s0, h.s1⟩
theorem RM.setv (h : RM w S v op n st wr) (v' : Value) : RM w S v' op n st (wr.setCell ⟨w.heap.size + 1 + 1 + 1, 0, none⟩ v') := by
  have b := h.rd.set 0 v'
  simp only [List.setIfInBounds_toArray, List.set_cons_zero] at b
  exact ⟨h.below.setCell (p := ⟨w.heap.size + 1 + 1 + 1, 0, none⟩) (by simp; omega) v', h.r1.apart (p := ⟨w.heap.size + 1 + 1 + 1, 0, none⟩) (by simp) v', h.r2.apart (p := ⟨w.heap.size + 1 + 1 + 1, 0, none⟩) (by simp) v', b, h.rq.apart (p := ⟨w.heap.size + 1 + 1 + 1, 0, none⟩) (by simp; omega) v', h.s0, h.s1⟩
theorem RM.setop (h : RM w S v op n st wr) (o : Int) : RM w S v o n st (wr.setCell ⟨w.heap.size + 1 + 1 + 1, 1, none⟩ (.int .i64 o)) := by
  have b := h.rd.set 1 (.int .i64 o)
  simp only [List.setIfInBounds_toArray, List.set_cons_zero, List.set_cons_succ] at b
  exact ⟨h.below.setCell (p := ⟨w.heap.size + 1 + 1 + 1, 1, none⟩) (by simp; omega) _, h.r1.apart (p := ⟨w.heap.size + 1 + 1 + 1, 1, none⟩) (by simp) _, h.r2.apart (p := ⟨w.heap.size + 1 + 1 + 1, 1, none⟩) (by simp) _, b, h.rq.apart (p := ⟨w.heap.size + 1 + 1 + 1, 1, none⟩) (by simp; omega) _, h.s0, h.s1⟩
theorem RM.setn (h : RM w S v op n st wr) (o : Int) : RM w S v op o st (wr.setCell ⟨w.heap.size + 1 + 1 + 1, 2, none⟩ (.int .i64 o)) := by
  have b := h.rd.set 2 (.int .i64 o)
  simp only [List.setIfInBounds_toArray, List.set_cons_zero, List.set_cons_succ] at b
  exact ⟨h.below.setCell (p := ⟨w.heap.size + 1 + 1 + 1, 2, none⟩) (by simp; omega) _, h.r1.apart (p := ⟨w.heap.size + 1 + 1 + 1, 2, none⟩) (by simp) _, h.r2.apart (p := ⟨w.heap.size + 1 + 1 + 1, 2, none⟩) (by simp) _, b, h.rq.apart (p := ⟨w.heap.size + 1 + 1 + 1, 2, none⟩) (by simp; omega) _, h.s0, h.s1⟩
theorem RM.setq (h : RM w S v op n st wr) (t : Int × Int) (h0 : 0 ≤ t.1) (h1 : t.1 ≤ S.size) : RM w S v op n t (((wr.setCell ⟨w.heap.size, 0, none⟩ (.string S)).setCell ⟨w.heap.size, 1, none⟩ (.int .i64 t.1)).setCell ⟨w.heap.size, 2, none⟩ (.int .i64 t.2)) := by
  have b := ((h.rq.set 0 (.string S)).set 1 (.int .i64 t.1)).set 2 (.int .i64 t.2)
  simp only [List.setIfInBounds_toArray, List.set_cons_zero, List.set_cons_succ] at b
  exact ⟨((h.below.setCell (p := ⟨w.heap.size, 0, none⟩) (by simp) _).setCell (p := ⟨w.heap.size, 1, none⟩) (by simp) _).setCell (p := ⟨w.heap.size, 2, none⟩) (by simp) _,
    ((h.r1.apart (p := ⟨w.heap.size, 0, none⟩) (by simp) _).apart (p := ⟨w.heap.size, 1, none⟩) (by simp) _).apart (p := ⟨w.heap.size, 2, none⟩) (by simp) _,
    ((h.r2.apart (p := ⟨w.heap.size, 0, none⟩) (by simp; omega) _).apart (p := ⟨w.heap.size, 1, none⟩) (by simp; omega) _).apart (p := ⟨w.heap.size, 2, none⟩) (by simp; omega) _,
    ((h.rd.apart (p := ⟨w.heap.size, 0, none⟩) (by simp; omega) _).apart (p := ⟨w.heap.size, 1, none⟩) (by simp; omega) _).apart (p := ⟨w.heap.size, 2, none⟩) (by simp; omega) _, b, h0, h1⟩
end
theorem own_setCell {w : World} {base : Nat} {e : TypeId} {size : Nat} {v : Value} {n : Nat} {xs : List Value} (h : w.ownsRow base e size v n xs) (a : Addr) (x : Value) (ha : a.block < base) : (w.setCell a x).ownsRow base e size v n xs :=
  own_of_block h (fun i hi => Below.heap_setCell _ _ _ _ (by have := (h.lt i hi).1; omega))
theorem rp_range {S : ByteArray} {s : Int × Int} (h0 : 0 ≤ s.1) (h : s.1 ≤ S.size) : ∀ k, 0 ≤ (rp (fun s => Code.ask S s 2) s k).2.1 ∧ (rp (fun s => Code.ask S s 2) s k).2.1 ≤ S.size
  | 0 => ⟨h0, h⟩
  | k + 1 => ask_range (rp_range h0 h k).1 (rp_range h0 h k).2

theorem row_drewAt {w : World} {A : Option Addr} {ks : List Int} (h : IRow w w.heap.size A ks) : IRow w.drew w.drew.heap.size A ks := h
/-- What Read gives. -/
def ReadEnds (S : ByteArray) (w : World) (e : Ending) (w' : World) : Prop :=
  Below w.heap.size w w' ∧ ∃ A c s1 s2, e = .returned (.tuple #[.agg #[.string S, .int .i64 s1, .int .i64 s2], .agg #[.slice A (d2 S).1.length c, .int .i64 (d3 S).2, .int .i64 (d4 S).2]]) ∧ Dlt.Ok ⟨A, c, (d2 S).1, (d3 S).2, (d4 S).2⟩ w' ∧ ∀ ad, A = some ad → w.heap.size ≤ ad.block

set_option maxRecDepth 100000 in
set_option maxHeartbeats 8000000 in
theorem ref_Read_any (S : ByteArray) (w : World) (hS : S.size ≤ 10000) : Calls Tryz.prog 33 #[.agg #[.string S, .int .i64 0, .int .i64 0]] w (ReadEnds S w) := by
  have HA := Lib.hid (fun s k hk h0 h1 W => ref_Ask_any S s k hk h0 h1 (by omega) W)
  have hb1 : Below w.heap.size w (w.alloc (.cells #[.string S, .int .i64 0, .int .i64 0] 64)) := (Below.refl _ _).alloc (Nat.le_refl _) _
  have hb2 := hb1.alloc hb1.size (.cells #[.string ⟨#[]⟩, .int .i64 0, .int .i64 0] 64)
  have hb3 := hb2.alloc hb2.size (.cells #[.slice none 0 0, .int .i64 0, .int .i64 0] 24)
  have hb4 := hb3.alloc hb3.size (.cells #[.slice none 0 0, .int .i64 0, .int .i64 0] 24)
  have b1 := (((Blk.new w 64 #[.string S, .int .i64 0, .int .i64 0]).alloc (.cells #[.string ⟨#[]⟩, .int .i64 0, .int .i64 0] 64)).alloc (.cells #[.slice none 0 0, .int .i64 0, .int .i64 0] 24)).alloc (.cells #[.slice none 0 0, .int .i64 0, .int .i64 0] 24)
  have b2 := ((Blk.new (w.alloc (.cells #[.string S, .int .i64 0, .int .i64 0] 64)) 64 #[.string ⟨#[]⟩, .int .i64 0, .int .i64 0]).alloc (.cells #[.slice none 0 0, .int .i64 0, .int .i64 0] 24)).alloc (.cells #[.slice none 0 0, .int .i64 0, .int .i64 0] 24)
  have b3 := (Blk.new ((w.alloc (.cells #[.string S, .int .i64 0, .int .i64 0] 64)).alloc (.cells #[.string ⟨#[]⟩, .int .i64 0, .int .i64 0] 64)) 24 #[.slice none 0 0, .int .i64 0, .int .i64 0]).alloc (.cells #[.slice none 0 0, .int .i64 0, .int .i64 0] 24)
  have b4 := Blk.new (((w.alloc (.cells #[.string S, .int .i64 0, .int .i64 0] 64)).alloc (.cells #[.string ⟨#[]⟩, .int .i64 0, .int .i64 0] 64)).alloc (.cells #[.slice none 0 0, .int .i64 0, .int .i64 0] 24)) 24 #[.slice none 0 0, .int .i64 0, .int .i64 0]
  simp only [World.size_alloc] at b2 b3 b4
  obtain ⟨w4, hw4⟩ : ∃ w4, (((w.alloc (.cells #[.string S, .int .i64 0, .int .i64 0] 64)).alloc (.cells #[.string ⟨#[]⟩, .int .i64 0, .int .i64 0] 64)).alloc (.cells #[.slice none 0 0, .int .i64 0, .int .i64 0] 24)).alloc (.cells #[.slice none 0 0, .int .i64 0, .int .i64 0] 24) = w4 := ⟨_, rfl⟩
  rw [hw4] at hb4 b1 b2 b3 b4
  have HW4 := Lib.hid hw4
  have hM : RM w S (.slice none 0 0) 0 0 (0, 0) w4 := ⟨hb4, b2, b3, b4, b1, by simp, by simp⟩
  clear hw4 hb1 hb2 hb3 hb4 b1 b2 b3 b4
  obtain ⟨q0, q1, q2⟩ := hM.rq.three
  have qf := hM.rq.frozen
  have HD2 := Lib.hid (show d2 S = rp (fun s => Code.ask S s 2) (Code.ask S (0, 0) 2).1 (min (Code.ask S (0, 0) 2).2.toNat 31) from rfl)
  have HD3 := Lib.hid (show d3 S = Code.ask S (d2 S).2 0 from rfl)
  have HD4 := Lib.hid (show d4 S = Code.ask S (d3 S).1 3 from rfl)
  have a1r := ask_range (S := S) (s := (0, 0)) (k := 2) (by simp) (by simp)
  have HA1 := Lib.hid (fun W => HA.out (0, 0) 2 (by omega) (by simp) (by simp) W)
  generalize Code.ask S (0, 0) 2 = a1 at *
  obtain ⟨⟨s1a, s1b⟩, n⟩ := a1
  simp only at a1r HD2 HA1
  go_enter Tryz.func33, Tryz.ntmps33
  go_wp2_with (go_at_call 61; rw [HW4.out]; refine (HA1.out _).mono ?_; rintro e w5 ⟨rfl, hb5⟩; have hM5 := hM.after hb5; obtain ⟨q0, q1, q2⟩ := hM5.rq.three; have qf := hM5.rq.frozen)
  have hM6 := hM5.setq (s1a, s1b) a1r.1 a1r.2
  generalize (((w5.setCell ⟨w.heap.size, 0, none⟩ (.string S)).setCell ⟨w.heap.size, 1, none⟩ (.int .i64 s1a)).setCell ⟨w.heap.size, 2, none⟩ (.int .i64 s1b)) = w6 at *
  clear q0 q1 q2 qf hM hM5 hb5 HW4 HA1
  obtain ⟨ig, hig, hz0, hz1, hz2⟩ := info_parts info_int
  obtain ⟨m, hm⟩ : ∃ m, min n.toNat 31 = m := ⟨_, rfl⟩
  rw [hm] at HD2
  have hm31 : m ≤ 31 := by omega
  have HRR := Lib.hid (rp_range (S := S) (s := (s1a, s1b)) a1r.1 a1r.2)
  obtain ⟨base, hbase⟩ : ∃ b, w6.heap.size = b := ⟨_, rfl⟩
  have hb4 : w.heap.size + 4 ≤ base := by have := hM6.rd.lt; omega
  go_loopw [6] (fun i wr => ∃ (k : Nat) (v : Value), k ≤ m ∧ i = .int .i64 k ∧ RM w S v 0 0 (rp (fun s => Code.ask S s 2) (s1a, s1b) k).2 wr ∧ wr.ownsRow base 3 1 v (rp (fun s => Code.ask S s 2) (s1a, s1b) k).1.length (icells (rp (fun s => Code.ask S s 2) (s1a, s1b) k).1) ∧ base ≤ wr.heap.size) (fun i _ => 31 - (intOf i).toNat)
  case atStart => exact ⟨0, _, by omega, rfl, hM6, World.ownsRow_nil _ _ _ _, by omega⟩
  case round =>
    clear hM6
    obtain ⟨k, v, hk, rfl, hG, hO, hbw⟩ := hrel
    have hlen := rp_len (fun s => Code.ask S s 2) (s1a, s1b) k
    obtain ⟨q0, q1, q2⟩ := hG.rq.three
    by_cases hlt : k < m
    · have j1 : (k : Int) < n := by omega
      have j2 : (k : Int) < 31 := by omega
      have hst : rp (fun s => Code.ask S s 2) (s1a, s1b) (k + 1) = ((rp (fun s => Code.ask S s 2) (s1a, s1b) k).1 ++ [(Code.ask S (rp (fun s => Code.ask S s 2) (s1a, s1b) k).2 2).2], (Code.ask S (rp (fun s => Code.ask S s 2) (s1a, s1b) k).2 2).1) := rfl
      have hAA := HA.out (rp (fun s => Code.ask S s 2) (s1a, s1b) k).2 2 (by omega) (HRR.out k).1 (HRR.out k).2
      have har := ask_range (S := S) (s := (rp (fun s => Code.ask S s 2) (s1a, s1b) k).2) (k := 2) (HRR.out k).1 (HRR.out k).2
      generalize (Code.ask S (rp (fun s => Code.ask S s 2) (s1a, s1b) k).2 2).2 = t at *
      generalize (Code.ask S (rp (fun s => Code.ask S s 2) (s1a, s1b) k).2 2).1 = st at *
      generalize (rp (fun s => Code.ask S s 2) (s1a, s1b) k).2 = st0 at *
      have HS := Lib.hid hst
      have HAA := Lib.hid hAA
      clear hst hAA
      generalize (rp (fun s => Code.ask S s 2) (s1a, s1b) k).1 = L at *
      have hll : L.length ≤ 31 := by omega
      clear hlen
      go_wp2_with fail
      refine (HAA.out _).mono ?_
      rintro e w8 ⟨rfl, hb8⟩
      have hG8 := hG.after hb8
      have bX := Blk.new w8 64 #[.string S, .int .i64 st.1, .int .i64 st.2]
      have hG9 := hG8.after ((Below.refl _ _).alloc (Nat.le_refl _) (.cells #[.string S, .int .i64 st.1, .int .i64 st.2] 64))
      have hO9 := (own_of_block hO (fun i hi => hb8.block i (hO.lt i hi).2)).alloc (.cells #[.string S, .int .i64 st.1, .int .i64 st.2] 64)
      have hbs := hb8.size
      have hgl := bX.lt
      obtain ⟨y0, y1, y2⟩ := hG9.rd.three
      have hnb := heap_alloc_new (w8.alloc (.cells #[.string S, .int .i64 st.1, .int .i64 st.2] 64)) (.cells #[.int .i64 t] 3)
      rw [World.size_alloc] at hnb
      have HNB := Lib.hid hnb
      clear hnb
      have hsz3 : base ≤ ((w8.alloc (.cells #[.string S, .int .i64 st.1, .int .i64 st.2] 64)).alloc (.cells #[.int .i64 t] 3)).heap.size := by simp only [World.size_alloc]; omega
      have hG10 := hG9.after ((Below.refl _ _).alloc (Nat.le_refl _) (.cells #[.int .i64 t] 3))
      have bX10 := bX.alloc (.cells #[.int .i64 t] 3)
      have hrow := fun i (hi : v.ownBlock = some i) => (hO.lt i hi).1
      have hrl := fun i (hi : v.ownBlock = some i) => (hO.lt i hi).2
      go_wp2_with (first
        | (at_builtin; (refine wpList_append_own_at _ rfl _ _ 22 rfl base 3 ig (.int .i64 0) 1 8 Tryz.underlying22 hig hz0 hz1 hz2 rfl (by decide) _ L.length _ rfl (hO9.alloc _) ⟨w8.heap.size + 1, 0, none⟩ 1 1 [.int .i64 t] rfl rfl (World.news_of_block (cs := #[.int .i64 t]) (t := 3) (fr := (0, 0)) HNB.out) (by simp [Value.oneCell']) (by simp only [maxLen]; omega) (by omega) hsz3 ?_); intro v7 w11 hown hgr _ hat
           obtain ⟨A1, c1, rfl⟩ := owns_form hown
           have hG11 := hG10.grown hgr (fun i hi => Nat.le_trans hb4 (hrow i hi))
           have bX11 := bX10.grown hgr (fun e => by have := hrl _ e.symm; omega)
           have hG12 := hG11.setv (.slice A1 (L.length + 1) c1)
           obtain ⟨y0, y1, y2⟩ := hG11.rd.three
           have yf := hG11.rd.frozen
           have bX12 := bX11.apart (p := ⟨w.heap.size + 1 + 1 + 1, 0, none⟩) (by simp; omega) (.slice A1 (L.length + 1) c1)
           obtain ⟨z0, z1, z2⟩ := bX12.three
           have hO13 := own_setCell (own_setCell (own_setCell (own_setCell hown ⟨w.heap.size + 1 + 1 + 1, 0, none⟩ (.slice A1 (L.length + 1) c1) (by simp; omega)) ⟨w.heap.size, 0, none⟩ (.string S) (by simp; omega)) ⟨w.heap.size, 1, none⟩ (.int .i64 st.1) (by simp; omega)) ⟨w.heap.size, 2, none⟩ (.int .i64 st.2) (by simp; omega)
           have hG13 := hG12.setq st har.1 har.2
           obtain ⟨q0, q1, q2⟩ := hG12.rq.three
           have qf := hG12.rq.frozen)
        | fail)
      go_roundw
      case rel => exact ⟨k + 1, _, by omega, by go_num, by rw [HS.out]; exact hG13, by rw [HS.out, icells_add, List.length_append]; exact hO13, by simp only [World.size_setCell]; exact Nat.le_trans hsz3 hgr.size⟩
      case measure => simp [intOf]; omega
    · have hk9 : k = m := by omega
      have hcc : ¬ (k : Int) < n ∨ ((k : Int) < n ∧ ¬ (k : Int) < 31) := by omega
      rw [hk9] at hG hO
      clear hk9 hlen q0 q1 q2
      rw [← HD2] at hG hO
      have hl31 : (d2 S).1.length ≤ 31 := by rw [HD2, rp_len]; omega
      have hr2 := HRR.out m
      rw [← HD2] at hr2
      have HA3 := Lib.hid (fun W => HA.out (d2 S).2 0 (by omega) hr2.1 hr2.2 W)
      have hr3 := ask_range (S := S) (s := (d2 S).2) (k := 0) hr2.1 hr2.2
      rw [← HD3.out] at hr3 HA3
      have HA4 := Lib.hid (fun W => HA.out (d3 S).1 3 (by omega) hr3.1 hr3.2 W)
      have hr4 := ask_range (S := S) (s := (d3 S).1) (k := 3) hr3.1 hr3.2
      rw [← HD4.out] at hr4 HA4
      generalize (d4 S).1 = st4 at *
      generalize ht4 : (d4 S).2 = t4 at *
      generalize (d3 S).1 = st3 at *
      generalize ht3 : (d3 S).2 = t3 at *
      generalize (d2 S).2 = st2 at *
      generalize hL : (d2 S).1 = L at *
      have HE := Lib.hid (And.intro hL (And.intro ht3 ht4))
      clear hL ht3 ht4
      have hbs := hG.below.size
      obtain ⟨q0, q1, q2⟩ := hG.rq.three
      clear hm31 hm HD2 HRR HA hlt hk hr2 hbase
      rcases hcc with j1 | ⟨j1, j2⟩
      all_goals
        go_wp2_with (first
          | (go_at_call 61; (with_reducible refine (HA3.out _).mono ?_); rintro e w8 ⟨rfl, hb8⟩
             have hG8 := hG.after hb8
             have hO8 := own_of_block hO (fun i hi => hb8.block i (hO.lt i hi).2)
             have hG9 := hG8.setq st3 hr3.1 hr3.2
             have hO9 := own_setCell (own_setCell (own_setCell hO8 ⟨w.heap.size, 0, none⟩ (.string S) (by simp; omega)) ⟨w.heap.size, 1, none⟩ (.int .i64 st3.1) (by simp; omega)) ⟨w.heap.size, 2, none⟩ (.int .i64 st3.2) (by simp; omega)
             obtain ⟨q0, q1, q2⟩ := hG8.rq.three
             have qf := hG8.rq.frozen
             obtain ⟨y0, y1, y2⟩ := hG9.rd.three
             have yf := hG9.rd.frozen
             have hG10 := hG9.setop t3
             have hO10 := own_setCell hO9 ⟨w.heap.size + 1 + 1 + 1, 1, none⟩ (.int .i64 t3) (by simp; omega)
             obtain ⟨q0', q1', q2'⟩ := hG10.rq.three
             clear hG8 hO8 hG9 hO9)
          | (go_at_call 61; (with_reducible refine (HA4.out _).mono ?_); rintro e w12 ⟨rfl, hb12⟩
             have hG12 := hG10.after hb12
             have hO12 := own_of_block hO10 (fun i hi => hb12.block i (hO10.lt i hi).2)
             have hG13 := hG12.setq st4 hr4.1 hr4.2
             have hO13 := own_setCell (own_setCell (own_setCell hO12 ⟨w.heap.size, 0, none⟩ (.string S) (by simp; omega)) ⟨w.heap.size, 1, none⟩ (.int .i64 st4.1) (by simp; omega)) ⟨w.heap.size, 2, none⟩ (.int .i64 st4.2) (by simp; omega)
             obtain ⟨q0, q1, q2⟩ := hG12.rq.three
             have qf := hG12.rq.frozen
             obtain ⟨y0, y1, y2⟩ := hG13.rd.three
             have yf := hG13.rd.frozen
             have hG14 := hG13.setn t4
             have hO14 := own_setCell hO13 ⟨w.heap.size + 1 + 1 + 1, 2, none⟩ (.int .i64 t4) (by simp; omega)
             obtain ⟨z0, z1, z2⟩ := hG14.rq.three
             obtain ⟨x0, x1, x2⟩ := hG14.rd.three
             obtain ⟨r0, r1, r2⟩ := hG14.r1.three
             have rf := hG14.r1.frozen
             obtain ⟨s0, s1, s2⟩ := hG14.r2.three
             have sf := hG14.r2.frozen
             clear hG10 hO10 hG12 hO12 hG13 hO13)
          | fail)
        obtain ⟨A, c, rfl⟩ := owns_form hO14
        generalize ((((w12.setCell ⟨w.heap.size, 0, none⟩ (.string S)).setCell ⟨w.heap.size, 1, none⟩ (.int .i64 st4.1)).setCell ⟨w.heap.size, 2, none⟩ (.int .i64 st4.2)).setCell ⟨w.heap.size + 1 + 1 + 1, 2, none⟩ (.int .i64 t4)) = w14 at *
        have hOf := own_setCell (own_setCell (own_setCell (own_setCell (own_setCell (own_setCell hO14 ⟨w.heap.size + 1, 0, none⟩ (.string S) (by simp; omega)) ⟨w.heap.size + 1, 1, none⟩ (.int .i64 st4.1) (by simp; omega)) ⟨w.heap.size + 1, 2, none⟩ (.int .i64 st4.2) (by simp; omega)) ⟨w.heap.size + 1 + 1, 0, none⟩ (.slice A L.length c) (by simp; omega)) ⟨w.heap.size + 1 + 1, 1, none⟩ (.int .i64 t3) (by simp; omega)) ⟨w.heap.size + 1 + 1, 2, none⟩ (.int .i64 t4) (by simp; omega)
        have hBf := (((((hG14.below.setCell (p := ⟨w.heap.size + 1, 0, none⟩) (by simp) (.string S)).setCell (p := ⟨w.heap.size + 1, 1, none⟩) (by simp) (.int .i64 st4.1)).setCell (p := ⟨w.heap.size + 1, 2, none⟩) (by simp) (.int .i64 st4.2)).setCell (p := ⟨w.heap.size + 1 + 1, 0, none⟩) (by simp; omega) (.slice A L.length c)).setCell (p := ⟨w.heap.size + 1 + 1, 1, none⟩) (by simp; omega) (.int .i64 t3)).setCell (p := ⟨w.heap.size + 1 + 1, 2, none⟩) (by simp; omega) (.int .i64 t4)
        obtain ⟨A9, c9, e9, f1, f2, f3, f4⟩ := own_ints2' hOf
        simp only [Value.slice.injEq, true_and] at e9
        obtain ⟨rfl, rfl⟩ := e9
        have b1f := ((((((hG14.r1.set 0 (.string S)).set 1 (.int .i64 st4.1)).set 2 (.int .i64 st4.2)).apart (p := ⟨w.heap.size + 1 + 1, 0, none⟩) (by simp) (.slice A L.length c)).apart (p := ⟨w.heap.size + 1 + 1, 1, none⟩) (by simp) (.int .i64 t3)).apart (p := ⟨w.heap.size + 1 + 1, 2, none⟩) (by simp) (.int .i64 t4)).drew
        have b2f := ((((((hG14.r2.apart (p := ⟨w.heap.size + 1, 0, none⟩) (by simp) (.string S)).apart (p := ⟨w.heap.size + 1, 1, none⟩) (by simp) (.int .i64 st4.1)).apart (p := ⟨w.heap.size + 1, 2, none⟩) (by simp) (.int .i64 st4.2)).set 0 (.slice A L.length c)).set 1 (.int .i64 t3)).set 2 (.int .i64 t4)).drew
        simp only [List.setIfInBounds_toArray, List.set_cons_zero, List.set_cons_succ] at b1f b2f
        have HB9 := Lib.hid hBf.drew
        have HR9 := Lib.hid (row_drewAt f3)
        have K1 := Lib.hid b1f.three
        have K2 := Lib.hid b2f.three
        clear hOf hBf f3 hO14 hG14 hG hO HA3 HA4 b1f b2f
        go_region
        all_goals go_wp2_with fail
        generalize ((((((w14.setCell ⟨w.heap.size + 1, 0, none⟩ (.string S)).setCell ⟨w.heap.size + 1, 1, none⟩ (.int .i64 st4.1)).setCell ⟨w.heap.size + 1, 2, none⟩ (.int .i64 st4.2)).setCell ⟨w.heap.size + 1 + 1, 0, none⟩ (.slice A L.length c)).setCell ⟨w.heap.size + 1 + 1, 1, none⟩ (.int .i64 t3)).setCell ⟨w.heap.size + 1 + 1, 2, none⟩ (.int .i64 t4)).drew = wf at *
        obtain ⟨k0, k1, k2⟩ := K1.out
        obtain ⟨l0, l1, l2⟩ := K2.out
        clear K1 K2 r0 r1 r2 s0 s1 s2 rf sf q0 q1 q2 qf y0 y1 y2 yf z0 z1 z2 x0 x1 x2
        refine bodyPost_ret (v := .tuple #[.agg #[.string S, .int .i64 st4.1, .int .i64 st4.2], .agg #[.slice A L.length c, .int .i64 t3, .int .i64 t4]]) (by simp [results, Tryz.results33, go_sem, k0, k1, k2, l0, l1, l2]) rfl ?_
        obtain ⟨hL, ht3, ht4⟩ := HE.out
        refine ⟨HB9.out, A, c, st4.1, st4.2, by rw [hL, ht3, ht4], ?_⟩
        rw [hL, ht3, ht4]
        exact ⟨⟨HR9.out, by simp only; omega, f1, f2⟩, fun ad e => by have := f4 ad e; omega⟩

end Go.Proofs.YthkhonkibigdaaaGreat.Delta
