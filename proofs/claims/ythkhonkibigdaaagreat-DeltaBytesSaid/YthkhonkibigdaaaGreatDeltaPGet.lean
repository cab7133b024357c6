/-
  Package delta, walked: the delta of bytes.
-/
import Derived.Test.YthkhonkibigdaaaGreatDeltaPPut
import Derived.Test.YthkhonkibigdaaaGreatCodeH
import Derived.Deep.RegionLaw
import Derived.Deep.AppendLies
namespace Go.Proofs.YthkhonkibigdaaaGreat.Delta
open Go.RowKit Leb Mem Wire Zig _root_.Go.Proofs.YthkhonkibigdaaaGreat.Arena _root_.Go.Proofs.YthkhonkibigdaaaGreat.Kinds _root_.Go.Proofs.YthkhonkibigdaaaGreat.Code _root_.Go.Proofs.YthkhonkibigdaaaGreat.Path
set_option linter.unusedVariables false
attribute [local go_sem ↓] Go.wp_at_zero Go.wp_at_succ

/-- What reading holds: a delta in its box, the reader at a place. -/
structure RD (g : Nat) (S : ByteArray) (w : World) (v : Value) (op n : Int) (s : Int × Int) (wr : World) : Prop where
  rs : Rs g S w s wr
  r2 : Blk wr w.heap.size 24 #[.slice none 0 0, .int .i64 0, .int .i64 0]
  rd : Blk wr (w.heap.size + 1) 24 #[v, .int .i64 op, .int .i64 n]
  gl : g < w.heap.size
section
variable {g : Nat} {S : ByteArray} {w wr w' : World} {v : Value} {op n : Int} {s : Int × Int}
theorem RD.below (h : RD g S w v op n s wr) (hb : Below wr.heap.size wr w') : RD g S w v op n s w' := ⟨h.rs.below hb, h.r2.below hb h.r2.lt, h.rd.below hb h.rd.lt, h.gl⟩
theorem RD.drew (h : RD g S w v op n s wr) : RD g S w v op n s wr.drew := h.below (Below.refl _ _).drew
theorem RD.to {t : Int × Int} (h : RD g S w v op n s wr) (k : Rs g S wr t w') : RD g S w v op n t w' :=
  ⟨h.rs.back (Below.refl _ _) k, h.r2.kept k.kept (by have := h.gl; omega), h.rd.kept k.kept (by have := h.gl; omega), h.gl⟩
theorem RD.count (h : RD g S w v op n s wr) (N : Int) (hN : N ≤ 9223372036854775807) :
    Calls Tryz.prog 58 #[.pointer (some ⟨g, 0, none⟩), .int .i64 N] wr fun e w' => e = .returned (.int .i64 (askP S s 2 N).2) ∧ RD g S w v op n (askP S s 2 N).1 w' ∧ Kept (· = g) wr w' :=
  ((h.rs.again (Below.refl _ _)).count N hN).mono (fun e w' q => ⟨q.1, h.to q.2, q.2.kept⟩)
theorem RD.byte (h : RD g S w v op n s wr) :
    Calls Tryz.prog 59 #[.pointer (some ⟨g, 0, none⟩)] wr fun e w' => e = .returned (.int .u8 (askP S s 0 0).2) ∧ RD g S w v op n (askP S s 0 0).1 w' ∧ Kept (· = g) wr w' :=
  ((h.rs.again (Below.refl _ _)).byte).mono (fun e w' q => ⟨q.1, h.to q.2, q.2.kept⟩)
theorem RD.int (h : RD g S w v op n s wr) :
    Calls Tryz.prog 60 #[.pointer (some ⟨g, 0, none⟩)] wr fun e w' => e = .returned (.int .i64 (askP S s 3 0).2) ∧ RD g S w v op n (askP S s 3 0).1 w' ∧ Kept (· = g) wr w' :=
  ((h.rs.again (Below.refl _ _)).int).mono (fun e w' q => ⟨q.1, h.to q.2, q.2.kept⟩)
theorem RD.grown {row : Option Nat} (h : RD g S w v op n s wr) (hg : wr.grownBy w' row) (hr : ∀ k, row = some k → w.heap.size + 2 ≤ k) : RD g S w v op n s w' :=
  ⟨h.rs.grown h.gl hg (fun i e => by have := hr i e; omega), h.r2.grown hg (fun e => by have := hr _ e.symm; omega), h.rd.grown hg (fun e => by have := hr _ e.symm; omega), h.gl⟩
theorem RD.setv (h : RD g S w v op n s wr) (v' : Value) : RD g S w v' op n s (wr.setCell ⟨w.heap.size + 1, 0, none⟩ v') := by
  have b := h.rd.set 0 v'
  simp only [List.setIfInBounds_toArray, List.set_cons_zero] at b
  exact ⟨h.rs.set (q := ⟨w.heap.size + 1, 0, none⟩) (by have := h.gl; simp; omega) (by simp) v', h.r2.apart (p := ⟨w.heap.size + 1, 0, none⟩) (by simp) v', b, h.gl⟩
theorem RD.setop (h : RD g S w v op n s wr) (o : Int) : RD g S w v o n s (wr.setCell ⟨w.heap.size + 1, 1, none⟩ (.int .i64 o)) := by
  have b := h.rd.set 1 (.int .i64 o)
  simp only [List.setIfInBounds_toArray, List.set_cons_zero, List.set_cons_succ] at b
  exact ⟨h.rs.set (q := ⟨w.heap.size + 1, 1, none⟩) (by have := h.gl; simp; omega) (by simp) _, h.r2.apart (p := ⟨w.heap.size + 1, 1, none⟩) (by simp) _, b, h.gl⟩
theorem RD.setn (h : RD g S w v op n s wr) (o : Int) : RD g S w v op o s (wr.setCell ⟨w.heap.size + 1, 2, none⟩ (.int .i64 o)) := by
  have b := h.rd.set 2 (.int .i64 o)
  simp only [List.setIfInBounds_toArray, List.set_cons_zero, List.set_cons_succ] at b
  exact ⟨h.rs.set (q := ⟨w.heap.size + 1, 2, none⟩) (by have := h.gl; simp; omega) (by simp) _, h.r2.apart (p := ⟨w.heap.size + 1, 2, none⟩) (by simp) _, b, h.gl⟩
end
theorem own_set {w : World} {base : Nat} {e : TypeId} {size : Nat} {v : Value} {n : Nat} {xs : List Value} (h : w.ownsRow base e size v n xs) (a : Addr) (x : Value) (ha : a.block < base) : (w.setCell a x).ownsRow base e size v n xs :=
  own_of_block h (fun i hi => Below.heap_setCell _ _ _ _ (by have := (h.lt i hi).1; omega))

/-- What read gives. -/
def RdD (g : Nat) (S : ByteArray) (w : World) (e : Ending) (w' : World) : Prop :=
  Kept (· = g) w w' ∧ ∃ A c, e = .returned (.agg #[.slice A (e2 S).1.length c, .int .i64 (e3 S).2, .int .i64 (e4 S).2]) ∧ Dlt.Ok ⟨A, c, (e2 S).1, (e3 S).2, (e4 S).2⟩ w' ∧ ∀ ad, A = some ad → w.heap.size ≤ ad.block

set_option maxRecDepth 100000 in
set_option maxHeartbeats 8000000 in
theorem read_any (g : Nat) (S : ByteArray) (w : World) (hS : S.size ≤ 10000) (hg : Rs g S w (0, 0) w) : Calls Tryz.prog 31 #[.pointer (some ⟨g, 0, none⟩)] w (RdD g S w) := by
  have hgl : g < w.heap.size := hg.rd.lt
  have hb1 : Below w.heap.size w (w.alloc (.cells #[.slice none 0 0, .int .i64 0, .int .i64 0] 24)) := (Below.refl _ _).alloc (Nat.le_refl _) _
  have hb2 := hb1.alloc hb1.size (.cells #[.slice none 0 0, .int .i64 0, .int .i64 0] 24)
  have b1 := (Blk.new w 24 #[.slice none 0 0, .int .i64 0, .int .i64 0]).alloc (.cells #[.slice none 0 0, .int .i64 0, .int .i64 0] 24)
  have b2 := Blk.new (w.alloc (.cells #[.slice none 0 0, .int .i64 0, .int .i64 0] 24)) 24 #[.slice none 0 0, .int .i64 0, .int .i64 0]
  simp only [World.size_alloc] at b2
  obtain ⟨w2, hw2⟩ : ∃ w2, (w.alloc (.cells #[.slice none 0 0, .int .i64 0, .int .i64 0] 24)).alloc (.cells #[.slice none 0 0, .int .i64 0, .int .i64 0] 24) = w2 := ⟨_, rfl⟩
  rw [hw2] at hb2 b1 b2
  have HW := Lib.hid hw2
  have hR : RD g S w (.slice none 0 0) 0 0 (0, 0) w2 := ⟨hg.below hb2, b1, b2, hgl⟩
  have H1 := Lib.hid (hR.count 30 (by omega))
  have hN := askP_count (S := S) (s := (0, 0)) (N := 30) (by omega) (by omega)
  have HE2 := Lib.hid (show e2 S = rp (fun s => askP S s 2 199) (askP S (0, 0) 2 30).1 (askP S (0, 0) 2 30).2.toNat from rfl)
  have HE3 := Lib.hid (show e3 S = askP S (e2 S).2 0 0 from rfl)
  have HE4 := Lib.hid (show e4 S = askP S (e3 S).1 3 0 from rfl)
  obtain ⟨ig, hig, hz0, hz1, hz2⟩ := info_parts info_int
  generalize (askP S (0, 0) 2 30).1 = s1 at *
  generalize (askP S (0, 0) 2 30).2 = nn at *
  obtain ⟨m, rfl⟩ := Int.eq_ofNat_of_zero_le hN.1
  rw [Int.toNat_natCast] at HE2
  have hm : m ≤ 30 := by omega
  clear hw2 hb1 hb2 b1 b2 hR hN hg
  go_enter Tryz.func31, Tryz.ntmps31
  go_wp2_with (first
    | (go_at_call 58; rw [HW.out]; (with_reducible refine H1.out.mono ?_); rintro e w3 ⟨rfl, hR, -⟩)
    | fail)
  obtain ⟨base, hbase⟩ : ∃ b, w3.heap.size = b := ⟨_, rfl⟩
  have hb4 : w.heap.size + 2 ≤ base := by have := hR.rd.lt; omega
  go_loopw [6] (fun i wr => ∃ (k : Nat) (v : Value), k ≤ m ∧ i = .int .i64 k ∧ RD g S w v 0 0 (rp (fun s => askP S s 2 199) s1 k).2 wr ∧ wr.ownsRow base 3 1 v (rp (fun s => askP S s 2 199) s1 k).1.length (icells (rp (fun s => askP S s 2 199) s1 k).1) ∧ base ≤ wr.heap.size) (fun i _ => m - (intOf i).toNat)
  case atStart => exact ⟨0, _, by omega, rfl, hR, World.ownsRow_nil _ _ _ _, by omega⟩
  case round =>
    clear hR
    obtain ⟨k, v, hk, rfl, hG, hO, hbw⟩ := hrel
    have hlen := rp_len (fun s => askP S s 2 199) s1 k
    by_cases hlt : k < m
    · have j1 : (k : Int) < (m : Int) := by omega
      have hst : rp (fun s => askP S s 2 199) s1 (k + 1) = ((rp (fun s => askP S s 2 199) s1 k).1 ++ [(askP S (rp (fun s => askP S s 2 199) s1 k).2 2 199).2], (askP S (rp (fun s => askP S s 2 199) s1 k).2 2 199).1) := rfl
      have HC := Lib.hid (hG.drew.count 199 (by omega))
      generalize (askP S (rp (fun s => askP S s 2 199) s1 k).2 2 199).2 = t at *
      generalize (askP S (rp (fun s => askP S s 2 199) s1 k).2 2 199).1 = st at *
      have HS := Lib.hid hst
      clear hst
      generalize (rp (fun s => askP S s 2 199) s1 k).1 = L at *
      have hll : L.length ≤ 30 := by omega
      have hv : ∃ A c, v = .slice A L.length c := by obtain ⟨A, c, e⟩ := owns_form hO; exact ⟨A, c, e⟩
      obtain ⟨A0, c0, rfl⟩ := hv
      obtain ⟨y0, y1, y2⟩ := hG.rd.three
      have hrow := fun i (hi : (Value.slice A0 L.length c0).ownBlock = some i) => hO.lt i hi
      clear hlen
      go_wp2_with fail
      go_region_law (first
        | (go_simp; go_at_call 58; (with_reducible refine HC.out.mono ?_); rintro e w4 ⟨rfl, hG4, hk4⟩; obtain ⟨y0, y1, y2⟩ := hG4.rd.three; have hO4 := own_of_block hO (fun i hi => hk4.block i (hrow i hi).2 (by have := (hrow i hi).1; omega)); have hsz4 : wr.heap.size ≤ w4.heap.size := hk4.size; have y0a := ((hG4.below ((Below.refl _ _).alloc (Nat.le_refl _) (.cells #[.int .i64 t] 3))).rd.three).1)
        | (refine step_append_lies _ (by rfl) _ _ _ (by rfl) base 3 ig _ 1 8 Tryz.underlying22 hig hz0 hz1 hz2 rfl (by omega) _ L.length _ (by rfl) (hO4.alloc _) ⟨w4.heap.size, 0, none⟩ 1 1 [.int .i64 t] (by rfl) (by rfl) (World.news_of_block (cs := #[.int .i64 t]) (t := 3) (fr := (0, 0)) (heap_alloc_new w4 _)) (by simp [Value.oneCell']) (by omega) (by simp only [maxLen]; omega) (by omega) (by simp; omega) (w4.heap.size + 1) (by simp) ?_; intro gg cap4 w5 hown hgr hat hlt5; have hG5 := (hG4.below ((Below.refl _ _).alloc (Nat.le_refl _) (.cells #[.int .i64 t] 3))).grown hgr (fun i hi => by have := (hrow i hi).1; omega); obtain ⟨y0, y1, y2⟩ := hG5.rd.three; have yf := hG5.rd.frozen 0))
      all_goals
        have hG6 := hG5.setv (.slice (some ⟨gg, 0, none⟩) (L.length + 1) cap4)
        have hO6 := own_set hown ⟨w.heap.size + 1, 0, none⟩ (.slice (some ⟨gg, 0, none⟩) (L.length + 1) cap4) (by simp; omega)
        have hsz6 := hgr.size
        simp only [World.size_alloc] at hsz6
        go_wp2_with fail
        go_roundw
        case rel => exact ⟨k + 1, _, by omega, by go_num, by rw [HS.out]; exact hG6, by rw [HS.out, icells_add, List.length_append]; exact hO6, by simp only [World.size_setCell]; omega⟩
        case measure => simp [intOf]; omega
    · have hk9 : k = m := by omega
      subst hk9
      rw [← HE2.out] at hG hO
      have hle : (e2 S).1.length ≤ 30 := by rw [HE2.out, rp_len]; omega
      have K3 := Lib.hid hG.byte
      rw [← HE3.out] at K3
      have hrb := byte_rng S (e2 S).2
      rw [← HE3.out] at hrb
      have K4 := Lib.hid (fun v op n W (h : RD g S w v op n (e3 S).1 W) => h.int)
      rw [← HE4.out] at K4
      clear HE2 hlen
      obtain ⟨A0, c0, rfl⟩ := owns_form hO
      have hu : IntKind.i64.wrap (e3 S).2 = (e3 S).2 := IntWalk.i64_in _ (by omega)
      have j1 : ¬ (k : Int) < (k : Int) := by omega
      have hrow := fun i (hi : (Value.slice A0 (e2 S).1.length c0).ownBlock = some i) => hO.lt i hi
      go_wp2_with (first
        | (go_at_call 59; (with_reducible refine K3.out.mono ?_); rintro e w4 ⟨rfl, hG4, hk4⟩
           have hO4 := own_of_block hO (fun i hi => hk4.block i (hrow i hi).2 (by have := (hrow i hi).1; omega))
           obtain ⟨y0, y1, y2⟩ := hG4.rd.three
           have yf := hG4.rd.frozen 1
           have hG5 := hG4.setop (e3 S).2
           have hO5 := own_set hO4 ⟨w.heap.size + 1, 1, none⟩ (.int .i64 (e3 S).2) (by simp; omega))
        | (go_at_call 60; (with_reducible refine (K4.out _ _ _ _ hG5).mono ?_); rintro e w6 ⟨rfl, hG6, hk6⟩
           have hO6 := own_of_block hO5 (fun i hi => hk6.block i (hO5.lt i hi).2 (by have := (hO5.lt i hi).1; omega))
           obtain ⟨y0, y1, y2⟩ := hG6.rd.three
           have yf := hG6.rd.frozen 2
           have hG7 := hG6.setn (e4 S).2
           have hO7 := own_set hO6 ⟨w.heap.size + 1, 2, none⟩ (.int .i64 (e4 S).2) (by simp; omega)
           obtain ⟨z0, z1, z2⟩ := hG7.rd.three
           obtain ⟨r0, r1, r2⟩ := hG7.r2.three
           have rf := hG7.r2.frozen)
        | fail)
      refine bodyPost_ret (v := .agg #[.slice A0 (e2 S).1.length c0, .int .i64 (e3 S).2, .int .i64 (e4 S).2]) (by simp [results, Tryz.results31, go_sem, r0, r1, r2]) rfl ?_
      have hO8 := own_set (own_set (own_set hO7 ⟨w.heap.size, 0, none⟩ (.slice A0 (e2 S).1.length c0) (by simp; omega)) ⟨w.heap.size, 1, none⟩ (.int .i64 (e3 S).2) (by simp; omega)) ⟨w.heap.size, 2, none⟩ (.int .i64 (e4 S).2) (by simp; omega)
      obtain ⟨A1, c1, e1, q1, q2, q3, q4⟩ := own_ints2 hO8
      cases e1
      exact ⟨(((hG7.rs.set (q := ⟨w.heap.size, 0, none⟩) (by simp; omega) (by simp) _).set (q := ⟨w.heap.size, 1, none⟩) (by simp; omega) (by simp) _).set (q := ⟨w.heap.size, 2, none⟩) (by simp; omega) (by simp) _).kept, A0, c0, rfl, ⟨q3, (by show (e2 S).1.length ≤ 1000000; omega), q1, q2⟩, fun ad e => by have := q4 ad e; omega⟩

theorem e4_rng (S : ByteArray) : N64 (e4 S).2 := by
  unfold e4 N64
  exact askP_int_rng
/-- What the package reads has these bytes just if the document's delta of them does. -/
theorem fits_e (S : ByteArray) : (Right (e2 S).1 (e3 S).2 ∧ dput (e2 S).1 (e3 S).2 (e4 S).2 = S.data.toList) ↔ dfits S := by
  constructor
  · rintro ⟨h1, h2⟩
    exact (dfits_put h1 (e4_rng S).1 (e4_rng S).2 h2.symm).1
  · rintro ⟨h1, h2⟩
    obtain ⟨a1, a2, a3, -⟩ := e_put (y := []) h1 (d4_rng S).1 (d4_rng S).2 (by rw [List.append_nil]; exact h2.symm)
    rw [a1, a2, a3]
    exact ⟨h1, h2⟩
theorem same_e {S : ByteArray} (h : dfits S) : (e2 S).1 = (d2 S).1 ∧ (e3 S).2 = (d3 S).2 ∧ (e4 S).2 = (d4 S).2 := by
  obtain ⟨a1, a2, a3, -⟩ := e_put (y := []) h.1 (d4_rng S).1 (d4_rng S).2 (by rw [List.append_nil]; exact h.2.symm)
  exact ⟨a1, a2, a3⟩

theorem row_far {w : World} {B : Nat} {A : Option Addr} {ks : List Int} {g : Nat} (h : IRow w B A ks) (i : Nat) (v : Value) (hA : ∀ ad, A = some ad → ad.block ≠ g) : IRow (w.setCell ⟨g, i, none⟩ v) B A ks := by
  intro j x hx
  obtain ⟨ad, e, hlt, q⟩ := h j x hx
  refine ⟨ad, e, hlt, (World.cell?_of_block ?_).trans q⟩
  rw [add_blockN]
  exact Below.heap_setCell _ _ _ _ (hA ad e)
set_option maxRecDepth 100000 in
set_option maxHeartbeats 2000000 in
theorem DPGet_any (S : ByteArray) (w : World) (hS : S.size ≤ 10000) : Calls Tryz.prog 9 #[.string S] w (DEnds S w) := by
  have hb1 : Below w.heap.size w (w.alloc (.cells #[.slice none 0 0, .int .i64 0, .int .i64 0] 24)) := (Below.refl _ _).alloc (Nat.le_refl _) _
  have bR := Blk.new w 24 #[.slice none 0 0, .int .i64 0, .int .i64 0]
  obtain ⟨w1, hw1⟩ : ∃ w1, w.alloc (.cells #[.slice none 0 0, .int .i64 0, .int .i64 0] 24) = w1 := ⟨_, rfl⟩
  rw [hw1] at hb1 bR
  have hlR := bR.lt
  have HW1 := Lib.hid hw1
  clear hw1
  go_enter Tryz.func9, Tryz.ntmps9
  go_wp2_with fail
  rw [HW1.out]
  refine (Of_any S _).mono ?_
  rintro e w2 ⟨rfl, hrd, hb2⟩
  have hR2 : Rs w1.heap.size S w2 (0, 0) w2 := ⟨hrd, Kept.refl _ _, Int.le_refl _, by simp, by omega⟩
  have bR2 := bR.below hb2 hlR
  clear bR hrd
  go_wp2_with fail
  refine (read_any _ S w2 hS hR2).mono ?_
  rintro e w3 ⟨hkept, A, c, rfl, hOk, hfA⟩
  have bR3 := bR2.kept hkept (by omega)
  have h12 := hb2.size
  have h13 : Below w1.heap.size w1 w3 := hb2.trans (hkept.to_below hb2.size (fun k e => by omega))
  have h03 : Below w.heap.size w w3 := hb1.trans (h13.mono hb1.size)
  have hiff := fits_e S
  have hfit := @same_e S
  have hN := e4_rng S
  generalize (e2 S).1 = p at *
  generalize (e3 S).2 = op at *
  generalize (e4 S).2 = n at *
  clear hR2 bR2 hkept hb2 hb1 h13
  have hb4 : Below w3.heap.size w3 (w3.alloc (.cells #[.slice A p.length c, .int .i64 op, .int .i64 n] 24)) := (Below.refl _ _).alloc (Nat.le_refl _) _
  have bP := Blk.new w3 24 #[.slice A p.length c, .int .i64 op, .int .i64 n]
  obtain ⟨w4, hw4⟩ : ∃ w4, w3.alloc (.cells #[.slice A p.length c, .int .i64 op, .int .i64 n] 24) = w4 := ⟨_, rfl⟩
  rw [hw4] at hb4 bP
  have hlP := bP.lt
  have bR4 := bR3.below hb4 bR3.lt
  have hlR4 := bR4.lt
  have hOk4 := hOk.at hb4
  have HPG := Lib.hid (fun hr => Put_good A c p op n w4 hOk4.path hr hN)
  have HPB := Lib.hid (fun hr => Put_bad A c p op n w4 hOk4.path hOk4.len hr)
  have HW4 := Lib.hid hw4
  have h04 : Below w.heap.size w w4 := h03.trans (hb4.mono h03.size)
  have hRP : w.heap.size < w3.heap.size := bR3.lt
  have h2R : w.heap.size < w2.heap.size := by omega
  have hA9 : ∀ ad, A = some ad → ad.block ≠ w.heap.size := fun ad e => by have := hfA ad e; omega
  have HALL := Lib.hid (fun w5 (hb5 : Below w4.heap.size w4 w5) => show ((w5.cell? ⟨w.heap.size, 0, none⟩ = some (.slice none 0 0) ∧ w5.cell? ⟨w.heap.size, 1, none⟩ = some (.int .i64 0) ∧ w5.cell? ⟨w.heap.size, 2, none⟩ = some (.int .i64 0)) ∧ (∀ i, w5.frozen? ⟨w.heap.size, i, none⟩ = false)) ∧ (w5.cell? ⟨w3.heap.size, 0, none⟩ = some (.slice A p.length c) ∧ w5.cell? ⟨w3.heap.size, 1, none⟩ = some (.int .i64 op) ∧ w5.cell? ⟨w3.heap.size, 2, none⟩ = some (.int .i64 n)) ∧ (∀ u0 u1 u2, Below w.heap.size w (((w5.setCell ⟨w.heap.size, 0, none⟩ u0).setCell ⟨w.heap.size, 1, none⟩ u1).setCell ⟨w.heap.size, 2, none⟩ u2)) ∧ (∀ u0 u1 u2, Dlt.Ok ⟨A, c, p, op, n⟩ (((w5.setCell ⟨w.heap.size, 0, none⟩ u0).setCell ⟨w.heap.size, 1, none⟩ u1).setCell ⟨w.heap.size, 2, none⟩ u2)) from
    have h05 : Below w.heap.size w w5 := h04.trans (hb5.mono h04.size)
    have hOk5 := hOk4.at hb5
    have bR5 := bR4.below hb5 hlR4
    have bP5 := bP.below hb5 hlP
    ⟨⟨bR5.three, bR5.frozen⟩, bP5.three, fun u0 u1 u2 => ((h05.setCell (p := ⟨w.heap.size, 0, none⟩) (Nat.le_refl _) u0).setCell (p := ⟨w.heap.size, 1, none⟩) (Nat.le_refl _) u1).setCell (p := ⟨w.heap.size, 2, none⟩) (Nat.le_refl _) u2,
      fun u0 u1 u2 => ⟨by
        have e : (((w5.setCell ⟨w.heap.size, 0, none⟩ u0).setCell ⟨w.heap.size, 1, none⟩ u1).setCell ⟨w.heap.size, 2, none⟩ u2).heap.size = w5.heap.size := by simp [World.setCell]
        rw [e]
        exact row_far (row_far (row_far hOk5.path 0 u0 hA9) 1 u1 hA9) 2 u2 hA9, hOk5.len, hOk5.cap, hOk5.none⟩⟩)
  clear hw4 hb4 hOk bR3 h03 hOk4 bR4 bP h04 hlP hlR4 hfA hA9 h12
  go_wp2_with fail
  rw [HW4.out]
  by_cases hr : Right p op
  · refine (HPG.out hr).mono ?_
    rintro e w5 ⟨rfl, hb5⟩
    obtain ⟨⟨⟨r0, r1, r2⟩, rf⟩, ⟨p0, p1, p2⟩, hBel, hDok⟩ := HALL.out _ hb5
    have HBel := Lib.hid hBel
    have HDok := Lib.hid hDok
    obtain ⟨T, hT⟩ : ∃ T : ByteArray, (⟨(dput p op n).toArray⟩ : ByteArray) = T := ⟨_, rfl⟩
    rw [hT]
    have hTl : T.data.toList = dput p op n := by rw [← hT]
    by_cases hTS : T = S
    · subst hTS
      have hf : dfits T := hiff.1 ⟨hr, hTl.symm⟩
      have HF := Lib.hid hf
      have HRD := Lib.hid (hfit hf)
      clear hT hTl hiff hfit hf hN hr hBel hDok
      go_wp2_with fail
      refine bodyPost_ret (v := .tuple #[.agg #[.slice A p.length c, .int .i64 op, .int .i64 n], .int .i64 0]) (by simp [results, Tryz.results9, go_sem, r0, r1, r2]) rfl ?_
      obtain ⟨e1, e2, e3⟩ := HRD.out
      exact ⟨HBel.out _ _ _, .inl ⟨HF.out, A, c, by rw [← e1, ← e2, ← e3], by rw [← e1, ← e2, ← e3]; exact HDok.out _ _ _⟩⟩
    · have hf : ¬ dfits S := fun q => hTS (by
        have := (hiff.2 q).2
        rw [← hTl] at this
        exact ByteArray.ext (Array.toList_inj.1 this))
      have hbe : (T.toList == S.toList) = false := by
        rw [beq_eq_false_iff_ne]
        intro q
        rw [ByteArray.toList_eq, ByteArray.toList_eq] at q
        exact hTS (ByteArray.ext (Array.toList_inj.1 q))
      have HF := Lib.hid hf
      clear hT hTl hiff hfit hf hN hr hBel hDok hTS
      go_wp2_with fail
      refine bodyPost_ret (v := .tuple #[.agg #[.slice none 0 0, .int .i64 0, .int .i64 0], .int .i64 12]) (by simp [results, Tryz.results9, go_sem, r0, r1, r2]) rfl ?_
      exact ⟨HBel.out _ _ _, .inr ⟨HF.out, none, 0, rfl, ⟨(fun i x h => by simp at h), by simp, by simp, fun _ => rfl⟩⟩⟩
  · have hf : ¬ dfits S := fun q => hr (hiff.2 q).1
    refine (HPB.out hr).mono ?_
    rintro e w5 ⟨rfl, hb5⟩
    obtain ⟨⟨⟨r0, r1, r2⟩, rf⟩, ⟨p0, p1, p2⟩, hBel, hDok⟩ := HALL.out _ hb5
    have HBel := Lib.hid hBel
    have HF := Lib.hid hf
    clear hiff hfit hf hN hr hBel hDok
    go_wp2_with fail
    refine bodyPost_ret (v := .tuple #[.agg #[.slice none 0 0, .int .i64 0, .int .i64 0], .int .i64 12]) (by simp [results, Tryz.results9, go_sem, r0, r1, r2]) rfl ?_
    exact ⟨HBel.out _ _ _, .inr ⟨HF.out, none, 0, rfl, ⟨(fun i x h => by simp at h), by simp, by simp, fun _ => rfl⟩⟩⟩

end Go.Proofs.YthkhonkibigdaaaGreat.Delta
