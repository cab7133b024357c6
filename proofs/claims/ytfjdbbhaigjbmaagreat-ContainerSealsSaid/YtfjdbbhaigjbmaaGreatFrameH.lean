/-
  Package frame, walked: a frame is read.
  Package frame: what its reader tells of a frame, and what that is of the bytes around it.
  Package frame, walked: a frame is read, as the plain facts say.
  Package frame, walked: a frame is got.
  Package frame, walked: a frame is got, as the document says.
  Package frame, walked: what is got.
-/
import Derived.Test.YtfjdbbhaigjbmaaGreatFrameG
import Derived.Test.YtfjdbbhaigjbmaaGreatWireG
import Derived.Deep.DrawnRows
namespace Go.Proofs.YtfjdbbhaigjbmaaGreat.Frame
open Go.RowKit Leb Mem Wire

set_option maxRecDepth 100000 in
set_option maxHeartbeats 1000000 in
/-- The frame is read, whatever the reader tells. -/
theorem section_letters (a : Nat) (u v : ByteArray) (x n : Int) (d : ByteArray) (p1 p2 p3 p4 e1 e2 e3 e4 : Int) (hx0 : 0 ≤ x) (hx1 : x ≤ 255) (w : World) (ha : a < w.heap.size)
    (hB : ∀ W : World, W.heap[a]? = w.heap[a]? → Calls Tryz.prog 58 #[.pointer (some ⟨a, 0, none⟩)] W (fun e w' => e = .returned (.int .u8 x) ∧ Rd w' a u p1 e1 ∧ Kept (· = a) W w'))
    (hC : ∀ W : World, Rd W a u p1 e1 → Calls Tryz.prog 83 #[.pointer (some ⟨a, 0, none⟩), .int .i64 1048576] W (fun e w' => e = .returned (.int .i64 n) ∧ Rd w' a u p2 e2 ∧ Kept (· = a) W w'))
    (hR : ∀ W : World, Rd W a u p2 e2 → Calls Tryz.prog 82 #[.pointer (some ⟨a, 0, none⟩), .int .i64 n] W (fun e w' => e = .returned (.string d) ∧ Rd w' a u p3 e3 ∧ Kept (· = a) W w'))
    (hT : ∀ W : World, Rd W a u p3 e3 → Calls Tryz.prog 82 #[.pointer (some ⟨a, 0, none⟩), .int .i64 4] W (fun e w' => (∃ z, e = .returned z) ∧ Rd w' a u p4 e4 ∧ Kept (· = a) W w')) :
    Calls Tryz.prog 71 #[.agg #[.pointer (some ⟨a, 0, none⟩), .string v]] w fun e w' => e = .returned (.agg #[.int .i64 x, .string d]) ∧ Rd w' a u p4 e4 ∧ Kept (· = a) w w' := by
  have hwx : IntKind.i64.wrap x = x := IntWalk.i64_in _ (by omega)
  have HB := Lib.hid hB
  have HC := Lib.hid hC
  have HR := Lib.hid hR
  have HT := Lib.hid hT
  clear hB hC hR hT
  have hk0 : Kept (· = a) w (((w.alloc (.cells #[.pointer (some ⟨a, 0, none⟩), .string v] 95)).alloc (.cells #[.int .i64 0, .string ⟨#[]⟩] 34))) := ((Kept.refl _ w).alloc _).alloc _
  have b0 := (Blk.new w 95 #[.pointer (some ⟨a, 0, none⟩), .string v]).alloc (.cells #[.int .i64 0, .string ⟨#[]⟩] 34)
  have b1 := Blk.new (w.alloc (.cells #[.pointer (some ⟨a, 0, none⟩), .string v] 95)) 34 #[.int .i64 0, .string ⟨#[]⟩]
  simp only [World.size_alloc] at b1
  have hh : ((w.alloc (.cells #[.pointer (some ⟨a, 0, none⟩), .string v] 95)).alloc (.cells #[.int .i64 0, .string ⟨#[]⟩] 34)).heap[a]? = w.heap[a]? := by
    rw [Below.heap_alloc _ _ _ (by simp; omega), Below.heap_alloc _ _ _ ha]
  obtain ⟨c0, c1⟩ := b0.two
  have hne0 : w.heap.size ≠ a := by omega
  have hne1 : w.heap.size + 1 ≠ a := by omega
  go_enter Tryz.func71, Tryz.ntmps71
  go_wp2_with fail
  refine (HB.out _ hh).mono ?_
  rintro e w1 ⟨rfl, hR1, hk1⟩
  have d0 : Blk w1 w.heap.size 95 #[.pointer (some ⟨a, 0, none⟩), .string v] := b0.kept hk1 hne0
  have d1 : Blk w1 (w.heap.size + 1) 34 #[.int .i64 0, .string ⟨#[]⟩] := b1.kept hk1 hne1
  have hkk := hk0.trans hk1
  clear hk0 hk1 b0 b1 c0 c1 hh HB
  have b2 := Blk.new w1 34 #[.int .i64 x, .string ⟨#[]⟩]
  have hlt1 : w.heap.size + 1 < w1.heap.size := d1.lt
  have d0 := d0.alloc (.cells #[.int .i64 x, .string ⟨#[]⟩] 34)
  have d1 := d1.alloc (.cells #[.int .i64 x, .string ⟨#[]⟩] 34)
  have hR1 : Rd _ a u p1 e1 := Blk.alloc hR1 (.cells #[.int .i64 x, .string ⟨#[]⟩] 34)
  have hkk := hkk.alloc (.cells #[.int .i64 x, .string ⟨#[]⟩] 34)
  have hne2 : w1.heap.size ≠ a := by omega
  have hal : a < w1.heap.size := by omega
  go_wp2_with fail
  generalize w1.alloc (.cells #[.int .i64 x, .string ⟨#[]⟩] 34) = W at *
  generalize w1.heap.size = s1 at *
  obtain ⟨hc0, hc1⟩ := d0.two
  have hRd : Rd W.drew a u p1 e1 := hR1
  have hkd : Kept (· = a) w W.drew := hkk.drew
  have h20 : Blk W.drew w.heap.size 95 #[.pointer (some ⟨a, 0, none⟩), .string v] := d0
  have h21 : Blk W.drew (w.heap.size + 1) 34 #[.int .i64 0, .string ⟨#[]⟩] := d1
  have h22 : Blk W.drew s1 34 #[.int .i64 x, .string ⟨#[]⟩] := b2
  clear d0 d1 b2 hR1 hkk
  have hc0 : W.drew.cell? ⟨w.heap.size, 0, none⟩ = some (.pointer (some ⟨a, 0, none⟩)) := hc0
  clear hc1
  have hfz := h22.frozen
  have hcz := h22.two.2
  have hadr : (⟨w.heap.size, 0, none⟩ : Addr) ≠ ⟨s1, 1, none⟩ := by simp
  go_region_held3 (fun w' => w'.cell? ⟨w.heap.size, 0, none⟩ = some (.pointer (some ⟨a, 0, none⟩))) (first | exact hc0 | exact (World.cell?_setCell_other _ _ _ _ hadr.symm).trans hc0 | go_keep)
    (first
      | (go_at_call 83; (with_reducible refine (HC.out _ hRd).mono ?_); rintro e w2 ⟨rfl, hRd, hk2⟩; have hkd := hkd.trans hk2; have h20 := h20.kept hk2 hne0; have h21 := h21.kept hk2 hne1; have h22 := h22.kept hk2 hne2; have hc0 := h20.two.1; have hfz := h22.frozen; have hcz := h22.two.2)
      | (go_at_call 82; (with_reducible refine (HR.out _ hRd).mono ?_); rintro e w2 ⟨rfl, hRd, hk2⟩; have hkd := hkd.trans hk2; have h20 := h20.kept hk2 hne0; have h21 := h21.kept hk2 hne1; have h22 := h22.kept hk2 hne2; have hc0 := h20.two.1; have hfz := h22.frozen; have hcz := h22.two.2))
  clear hc0 hfz hcz HC HR
  have hkd := hkd.setCell (p := ⟨s1, 1, none⟩) (.inr (by show w.heap.size ≤ s1; omega)) (.string d)
  have h20 := h20.apart (p := ⟨s1, 1, none⟩) (by simp; omega) (.string d)
  have h21 := h21.apart (p := ⟨s1, 1, none⟩) (by simp; omega) (.string d)
  have h22 : Blk _ s1 34 #[.int .i64 x, .string d] := h22.set 1 (.string d)
  have hRd : Rd _ a u p3 e3 := Blk.apart hRd (p := ⟨s1, 1, none⟩) (Ne.symm hne2) (.string d)
  obtain ⟨c0, -⟩ := h20.two
  go_wp2_with fail
  refine (HT.out _ hRd).mono ?_
  rintro e w3 ⟨⟨z, rfl⟩, hRd, hk3⟩
  have hkd := hkd.trans hk3
  have h21 := h21.kept hk3 hne1
  have h22 := h22.kept hk3 hne2
  obtain ⟨y0, y1⟩ := h22.two
  obtain ⟨z0, z1⟩ := h21.two
  have zf := h21.frozen
  clear c0 h20 hk3 hk2
  go_wp2_with fail
  refine bodyPost_ret (v := .agg #[.int .i64 x, .string d]) (by simp [results, Tryz.results71, go_sem, z0, z1]) rfl ?_
  refine ⟨rfl, ?_, ?_⟩
  · exact Blk.apart (Blk.apart hRd (p := ⟨w.heap.size + 1, 0, none⟩) (by simp; omega) _) (p := ⟨w.heap.size + 1, 1, none⟩) (by simp; omega) _
  · exact (hkd.setCell (p := ⟨w.heap.size + 1, 0, none⟩) (.inr (by simp)) _).setCell (p := ⟨w.heap.size + 1, 1, none⟩) (.inr (by simp)) _

end Go.Proofs.YtfjdbbhaigjbmaaGreat.Frame

namespace Go.Proofs.YtfjdbbhaigjbmaaGreat.Frame
open Go.RowKit Leb Mem Wire

theorem lget_drop (l : List UInt8) (a k : Nat) (ha : a + k ≤ l.length) : lget (l.drop a) k = ((lget l ((a : Int) + k)).1, (lget l ((a : Int) + k)).2.1 - a, (lget l ((a : Int) + k)).2.2) := by
  have e : ((a : Int) + (k : Int)).toNat = a + k := by omega
  have hL : ¬ ((k : Int) < 0 ∨ ((l.length - a : Nat) : Int) < (k : Int)) := by omega
  have hR : ¬ ((a : Int) + (k : Int) < 0 ∨ (l.length : Int) < (a : Int) + (k : Int)) := by omega
  unfold lget
  rw [Int.toNat_natCast, List.drop_drop, e, List.length_drop]
  simp only [if_neg hL, if_neg hR]
  by_cases c1 : lbytes 10 (l.drop (a + k)) = 0
  · simp only [if_pos c1]
    by_cases c2 : l.length - a - k < 10
    · have c3 : l.length - (a + k) < 10 := by omega
      simp only [if_pos c2, if_pos c3]; congr 2; omega
    · have c3 : ¬ l.length - (a + k) < 10 := by omega
      simp only [if_neg c2, if_neg c3]; congr 2; omega
  · simp only [if_neg c1]
    split
    · simp only; congr 2; omega
    · simp only; congr 2; omega

/-- What is read of a frame: type and data; the place; what is wrong. -/
def fsec (l : List UInt8) : (Int × List UInt8) × Int × Int :=
  if l.length = 0 then ((0, []), 0, 2)
  else if (lcount l 1 1048576).2.2 ≠ 0 then (((l.getD 0 0).toNat, []), 1, (lcount l 1 1048576).2.2)
  else if (lraw l (lcount l 1 1048576).2.1 (lcount l 1 1048576).1).2.2 ≠ 0 then (((l.getD 0 0).toNat, []), (lcount l 1 1048576).2.1, (lraw l (lcount l 1 1048576).2.1 (lcount l 1 1048576).1).2.2)
  else (((l.getD 0 0).toNat, (lraw l (lcount l 1 1048576).2.1 (lcount l 1 1048576).1).1), if (lraw l (lraw l (lcount l 1 1048576).2.1 (lcount l 1 1048576).1).2.1 4).2.2 ≠ 0 then (lraw l (lcount l 1 1048576).2.1 (lcount l 1 1048576).1).2.1 else (lraw l (lraw l (lcount l 1 1048576).2.1 (lcount l 1 1048576).1).2.1 4).2.1, (lraw l (lraw l (lcount l 1 1048576).2.1 (lcount l 1 1048576).1).2.1 4).2.2)

theorem lraw_neg {l : List UInt8} {a n : Int} (h : (lraw l a n).2.2 ≠ 0) : (lraw l a n).1 = [] ∧ (lraw l a n).2.1 = a := by
  unfold lraw at h ⊢
  by_cases c1 : n < 0
  · rw [if_pos c1]; exact ⟨rfl, rfl⟩
  · rw [if_neg c1] at h ⊢
    by_cases c2 : (l.length : Int) - a < n
    · rw [if_pos c2]; exact ⟨rfl, rfl⟩
    · rw [if_neg c2] at h; simp at h
theorem lraw_yes {l : List UInt8} {a n : Int} (h : (lraw l a n).2.2 = 0) : 0 ≤ n ∧ n ≤ (l.length : Int) - a ∧ lraw l a n = ((l.drop a.toNat).take n.toNat, a + n, 0) := by
  unfold lraw at h ⊢
  by_cases c1 : n < 0
  · rw [if_pos c1] at h; simp at h
  · rw [if_neg c1] at h ⊢
    by_cases c2 : (l.length : Int) - a < n
    · rw [if_pos c2] at h; simp at h
    · rw [if_neg c2]; exact ⟨by omega, by omega, rfl⟩
theorem lraw_in {l : List UInt8} {a n : Int} (h0 : 0 ≤ n) (h : n ≤ (l.length : Int) - a) : lraw l a n = ((l.drop a.toNat).take n.toNat, a + n, 0) := by
  unfold lraw; rw [if_neg (by omega), if_neg (by omega)]
theorem lraw_out {l : List UInt8} {a n : Int} (h0 : 0 ≤ n) (h : (l.length : Int) - a < n) : lraw l a n = ([], a, 2) := by
  unfold lraw; rw [if_neg (by omega), if_pos (by omega)]

/-- A frame is what its reader tells of the bytes from its place on. -/
theorem fget_sec (l : List UInt8) (a : Nat) (ha : a ≤ l.length) :
    fget l a = if (fsec (l.drop a)).2.2 ≠ 0 then ((0, []), (a : Int), (fsec (l.drop a)).2.2)
      else if Crc.good ((l.drop a).take (fsec (l.drop a)).2.1.toNat) then ((fsec (l.drop a)).1, (a : Int) + (fsec (l.drop a)).2.1, 0) else ((0, []), (a : Int), 6) := by
  by_cases c0 : (a : Int) = l.length
  · have : fsec (l.drop a) = ((0, []), 0, 2) := by unfold fsec; rw [if_pos (by rw [List.length_drop]; omega)]
    rw [this, c0, fget_end]
    rfl
  have hlt : a < l.length := by omega
  obtain ⟨⟨n, b, c⟩, hl⟩ : ∃ t, lget l ((a : Int) + 1) = t := ⟨_, rfl⟩
  have hd := lget_drop l a 1 (by omega)
  rw [show ((a : Int) + ((1 : Nat) : Int)) = (a : Int) + 1 by rfl, hl] at hd
  simp only [Int.natCast_one] at hd
  have hne : ¬ (l.drop a).length = 0 := by rw [List.length_drop]; omega
  by_cases c1 : c ≠ 0
  · have hc : lcount (l.drop a) 1 1048576 = (0, 1, c) := by rw [lcount_err (by rw [hd]; exact c1), hd]
    have : (fsec (l.drop a)).2.2 = c := by unfold fsec; rw [if_neg hne, hc, if_pos c1]
    rw [this, if_pos c1, fget_num (by omega) (by omega) hl c1]
  obtain rfl : c = 0 := by omega
  by_cases c2 : 1048576 < n
  · have hc : lcount (l.drop a) 1 1048576 = (0, 1, 4) := by rw [lcount_large (by rw [hd]) (by rw [hd]; right; simp only; omega)]
    have : (fsec (l.drop a)).2.2 = 4 := by unfold fsec; rw [if_neg hne, hc, if_pos (by simp)]
    rw [this, if_pos (by omega), fget_large (by omega) (by omega) hl c2]
  have hc : lcount (l.drop a) 1 1048576 = (n, b - a, 0) := by rw [lcount_ok (by rw [hd]) (by omega) (by rw [hd]; simp only; omega), hd]
  obtain ⟨g1, g2, g3, -⟩ := lget_only l ((a : Int) + 1) (by rw [hl])
  rw [hl] at g2 g3
  simp only at g2 g3
  obtain ⟨q, rfl⟩ := Int.eq_ofNat_of_zero_le (show 0 ≤ b by omega)
  have hdl : ((l.drop a).length : Int) = (l.length : Int) - a := by rw [List.length_drop]; omega
  by_cases c3 : (l.length : Int) - q < n + 4
  · have : (fsec (l.drop a)).2.2 = 2 := by
      unfold fsec
      rw [if_neg hne, hc, if_neg (by simp)]
      simp only
      by_cases c4 : (l.length : Int) - q < n
      · rw [lraw_out (by omega) (by omega), if_pos (by simp)]
      · rw [lraw_in (by omega) (by omega), if_neg (by simp)]
        simp only
        rw [lraw_out (by omega) (by omega)]
    rw [this, if_pos (by omega), fget_short (by omega) (by omega) hl (by omega) c3]
  have e1 : ((q : Int) - a + n + 4).toNat = q - a + n + 4 := by omega
  have hs : fsec (l.drop a) = ((((l.getD a 0).toNat : Int), (l.drop q).take n), (q : Int) - a + n + 4, 0) := by
    unfold fsec
    rw [if_neg hne, hc, if_neg (by simp)]
    simp only
    rw [lraw_in (by omega) (by omega), if_neg (by simp)]
    simp only
    rw [lraw_in (by omega) (by omega), if_neg (by simp), List.drop_drop]
    congr 2
    · simp [List.getD_eq_getElem?_getD]
    · congr 2; omega
  have hlen : ((l.drop a).take (q - a + n + 4)).length = q - a + n + 4 := by rw [List.length_take, List.length_drop]; omega
  have hg : Crc.good ((l.drop a).take (q - a + n + 4)) = decide (Crc.tail ((l.drop a).take (q + n - a)) = (l.drop (q + n)).take 4) := by
    unfold Crc.good
    rw [hlen, decide_eq_true (by omega), Bool.true_and, Nat.add_sub_cancel, List.take_take, Nat.min_eq_left (by omega), show q - a + n = q + n - a by omega, show q + n - a + 4 = (q + n - a) + 4 by rfl]
    rw [List.drop_take, List.drop_drop, show a + (q + n - a) = q + n by omega, Nat.add_sub_cancel_left]
    by_cases t : Crc.tail ((l.drop a).take (q + n - a)) = (l.drop (q + n)).take 4
    · rw [t]; simp
    · rw [decide_eq_false t, beq_eq_false_iff_ne]; exact fun h => t h.symm
  rw [hs]
  simp only
  rw [if_neg (by simp), e1, hg]
  by_cases t : Crc.tail ((l.drop a).take (q + n - a)) = (l.drop (q + n)).take 4
  · rw [if_pos (by simpa using t), fget_ok hlt hl (by omega) (by omega) t]
    congr 2
    omega
  · rw [if_neg (by simpa using t), fget_sum hlt hl (by omega) (by omega) t]

end Go.Proofs.YtfjdbbhaigjbmaaGreat.Frame

namespace Go.Proofs.YtfjdbbhaigjbmaaGreat.Frame
open Go.RowKit Leb Mem Wire

set_option maxRecDepth 100000 in
theorem str_strB (l : List UInt8) : strB l = str l := rfl

section
variable {a : Nat} {u : ByteArray} {w : World}
set_option maxRecDepth 100000 in
/-- A reader that is wrong reads nothing. -/
theorem raw_was (hs : u.size ≤ 1073741824) {p : Nat} {er : Int} (he : er ≠ 0) (hp : p ≤ u.size) (m : Int) (W : World) (h : Rd W a u p er) :
    Calls Tryz.prog 82 #[.pointer (some ⟨a, 0, none⟩), .int .i64 m] W (fun e w' => e = .returned (.string ⟨#[]⟩) ∧ Rd w' a u p er ∧ Kept (· = a) W w') :=
  (RRaw_any a u p er m W hs hp h).mono (fun _ _ h => h.was he)
set_option maxRecDepth 100000 in
theorem count_was (hs : u.size ≤ 1073741824) {p : Nat} {er : Int} (he : er ≠ 0) (m : Int) (hm : m ≤ 9223372036854775807) (W : World) (h : Rd W a u p er) :
    Calls Tryz.prog 83 #[.pointer (some ⟨a, 0, none⟩), .int .i64 m] W (fun e w' => e = .returned (.int .i64 0) ∧ Rd w' a u p er ∧ Kept (· = a) W w') :=
  (RCount_any a u p er m W hs hm h).mono (fun _ _ h => h.was he)
set_option maxRecDepth 100000 in
theorem Rd.same {W : World} {p er : Int} (h : Rd w a u p er) (hh : W.heap[a]? = w.heap[a]?) : Rd W a u p er := hh.trans h

set_option maxRecDepth 100000 in
theorem section_any (v : ByteArray) (hs : u.size ≤ 1073741824) (h : Rd w a u 0 0) :
    Calls Tryz.prog 71 #[.agg #[.pointer (some ⟨a, 0, none⟩), .string v]] w fun e w' =>
      e = .returned (.agg #[.int .i64 (fsec u.data.toList).1.1, .string (str (fsec u.data.toList).1.2)]) ∧ Rd w' a u (fsec u.data.toList).2.1 (fsec u.data.toList).2.2 ∧ Kept (· = a) w w' := by
  have ha : a < w.heap.size := Blk.lt h
  have hlen := len_of u
  by_cases h0 : u.size = 0
  · have hE : fsec u.data.toList = ((0, []), 0, 2) := by unfold fsec; rw [if_pos (by omega)]
    rw [hE]
    refine section_letters a u v 0 0 ⟨#[]⟩ 0 0 0 0 2 2 2 2 (by omega) (by omega) w ha ?_ ?_ ?_ ?_
    · intro W hW
      refine (Byte_no a u 0 W hs (by rw [h0]; exact Rd.same h hW)).mono ?_
      intro e w' q
      have := q.bad (by omega)
      rw [h0] at this
      exact this
    · intro W hW; exact count_was (p := 0) hs (by omega) _ (by omega) W hW
    · intro W hW; exact raw_was (p := 0) hs (by omega) (by omega) _ W hW
    · intro W hW; exact (raw_was (p := 0) hs (by omega) (by omega) _ W hW).mono (fun _ _ q => ⟨⟨_, q.1⟩, q.2⟩)
  · have hp : 0 < u.size := by omega
    have hb := u[0].toNat_lt
    have hg : u.data.toList.getD 0 0 = u[0] := getD_at u 0 hp
    have hB : ∀ W : World, W.heap[a]? = w.heap[a]? → Calls Tryz.prog 58 #[.pointer (some ⟨a, 0, none⟩)] W (fun e w' => e = .returned (.int .u8 u[0].toNat) ∧ Rd w' a u 1 0 ∧ Kept (· = a) W w') := by
      intro W hW
      refine (Byte_ok a u 0 0 W hs hp (Rd.same h hW)).mono ?_
      intro e w' q
      exact q.good
    by_cases h1 : (lcount u.data.toList 1 1048576).2.2 ≠ 0
    · have hE : fsec u.data.toList = (((u[0].toNat : Int), []), 1, (lcount u.data.toList 1 1048576).2.2) := by unfold fsec; rw [if_neg (by omega), if_pos h1, hg]
      rw [hE]
      refine section_letters a u v u[0].toNat 0 ⟨#[]⟩ 1 1 1 1 0 (lcount u.data.toList 1 1048576).2.2 (lcount u.data.toList 1 1048576).2.2 (lcount u.data.toList 1 1048576).2.2 (by omega) (by omega) w ha hB ?_ ?_ ?_
      · intro W hW
        refine (RCount_any a u 1 0 1048576 W hs (by omega) hW).mono ?_
        intro e w' q
        exact q.bad h1
      · intro W hW; exact raw_was (p := 1) hs h1 (by omega) _ W hW
      · intro W hW; exact (raw_was (p := 1) hs h1 (by omega) _ W hW).mono (fun _ _ q => ⟨⟨_, q.1⟩, q.2⟩)
    · have h1' : (lcount u.data.toList 1 1048576).2.2 = 0 := by omega
      obtain ⟨-, g2, g3, -, -⟩ := lcount_range _ _ _ h1'
      obtain ⟨⟨n, b, c⟩, hl⟩ : ∃ t, lcount u.data.toList 1 1048576 = t := ⟨_, rfl⟩
      rw [hl] at g2 g3 h1'
      simp only at g2 g3 h1'
      subst h1'
      obtain ⟨q, rfl⟩ := Int.eq_ofNat_of_zero_le (show 0 ≤ b by omega)
      have hC : ∀ W : World, Rd W a u 1 0 → Calls Tryz.prog 83 #[.pointer (some ⟨a, 0, none⟩), .int .i64 1048576] W (fun e w' => e = .returned (.int .i64 n) ∧ Rd w' a u q 0 ∧ Kept (· = a) W w') := by
        intro W hW
        have := RCount_any a u 1 0 1048576 W hs (by omega) hW
        rw [show ((1 : Nat) : Int) = 1 by rfl, hl] at this
        exact this.mono (fun _ _ q => q.good)
      by_cases h2 : (lraw u.data.toList q n).2.2 ≠ 0
      · have hE : fsec u.data.toList = (((u[0].toNat : Int), []), (q : Int), (lraw u.data.toList q n).2.2) := by unfold fsec; rw [if_neg (by omega), hl, if_neg (by simp), if_pos h2, hg]
        rw [hE]
        refine section_letters a u v u[0].toNat n ⟨#[]⟩ 1 q q q 0 0 (lraw u.data.toList q n).2.2 (lraw u.data.toList q n).2.2 (by omega) (by omega) w ha hB hC ?_ ?_
        · intro W hW; exact (RRaw_any a u q 0 n W hs (by omega) hW).mono (fun _ _ k => k.bad h2)
        · intro W hW; exact (raw_was (p := q) hs h2 (by omega) _ W hW).mono (fun _ _ q => ⟨⟨_, q.1⟩, q.2⟩)
      · obtain ⟨k0, k1, k2⟩ := lraw_yes (l := u.data.toList) (a := q) (n := n) (by omega)
        have hR : ∀ W : World, Rd W a u q 0 → Calls Tryz.prog 82 #[.pointer (some ⟨a, 0, none⟩), .int .i64 n] W (fun e w' => e = .returned (.string (str (lraw u.data.toList q n).1)) ∧ Rd w' a u ((q + n : Nat) : Int) 0 ∧ Kept (· = a) W w') := by
          intro W hW
          have := RRaw_any a u q 0 n W hs (by omega) hW
          rw [k2] at this ⊢
          exact this.mono (fun _ _ q => q.good)
        by_cases h3 : (lraw u.data.toList ((q + n : Nat) : Int) 4).2.2 ≠ 0
        · have hE : fsec u.data.toList = (((u[0].toNat : Int), (lraw u.data.toList q n).1), ((q + n : Nat) : Int), (lraw u.data.toList ((q + n : Nat) : Int) 4).2.2) := by
            unfold fsec; rw [if_neg (by omega), hl, if_neg (by simp), if_neg h2, k2]; simp only; rw [show (q : Int) + (n : Int) = ((q + n : Nat) : Int) by omega, if_pos h3, hg]
          rw [hE]
          refine section_letters a u v u[0].toNat n _ 1 q ((q + n : Nat) : Int) ((q + n : Nat) : Int) 0 0 0 (lraw u.data.toList ((q + n : Nat) : Int) 4).2.2 (by omega) (by omega) w ha hB hC hR ?_
          intro W hW; exact (RRaw_any a u (q + n) 0 4 W hs (by omega) hW).mono (fun _ _ k => ⟨⟨_, (k.bad h3).1⟩, (k.bad h3).2⟩)
        · have h3' : (lraw u.data.toList ((q + n : Nat) : Int) 4).2.2 = 0 := by omega
          have hE : fsec u.data.toList = (((u[0].toNat : Int), (lraw u.data.toList q n).1), (lraw u.data.toList ((q + n : Nat) : Int) 4).2.1, 0) := by
            unfold fsec; rw [if_neg (by omega), hl, if_neg (by simp), if_neg h2, k2]; simp only; rw [show (q : Int) + (n : Int) = ((q + n : Nat) : Int) by omega, if_neg h3, hg, h3']
          rw [hE]
          refine section_letters a u v u[0].toNat n _ 1 q ((q + n : Nat) : Int) (lraw u.data.toList ((q + n : Nat) : Int) 4).2.1 0 0 0 0 (by omega) (by omega) w ha hB hC hR ?_
          intro W hW
          have := RRaw_any a u (q + n) 0 4 W hs (by omega) hW
          rw [h3'] at this
          exact this.mono (fun _ _ k => ⟨⟨_, k.good.1⟩, k.good.2⟩)
end

set_option maxRecDepth 100000 in
/-- The place never leaves the bytes. -/
theorem fsec_range (l : List UInt8) : 0 ≤ (fsec l).2.1 ∧ (fsec l).2.1 ≤ l.length := by
  unfold fsec
  by_cases c0 : l.length = 0
  · rw [if_pos c0]; simp
  rw [if_neg c0]
  by_cases c1 : (lcount l 1 1048576).2.2 ≠ 0
  · rw [if_pos c1]; simp only; omega
  rw [if_neg c1]
  obtain ⟨-, g2, g3, -, -⟩ := lcount_range l 1 1048576 (by omega)
  by_cases c2 : (lraw l (lcount l 1 1048576).2.1 (lcount l 1 1048576).1).2.2 ≠ 0
  · rw [if_pos c2]; simp only; omega
  rw [if_neg c2]
  obtain ⟨k0, k1, k2⟩ := lraw_yes (l := l) (a := (lcount l 1 1048576).2.1) (n := (lcount l 1 1048576).1) (by omega)
  rw [k2]
  simp only
  by_cases c3 : (lraw l ((lcount l 1 1048576).2.1 + (lcount l 1 1048576).1) 4).2.2 ≠ 0
  · rw [if_pos c3]; omega
  · rw [if_neg c3]
    obtain ⟨j0, j1, j2⟩ := lraw_yes (l := l) (a := (lcount l 1 1048576).2.1 + (lcount l 1 1048576).1) (n := 4) (by omega)
    rw [j2]
    simp only
    omega
set_option maxRecDepth 100000 in
/-- It tells no rest. -/
theorem fsec_err (l : List UInt8) : (fsec l).2.2 ≠ 5 := by
  unfold fsec
  have hlr : ∀ a n : Int, (lraw l a n).2.2 ≤ 2 := by
    intro a n; unfold lraw; split
    · simp
    · split <;> simp
  by_cases c0 : l.length = 0
  · rw [if_pos c0]; simp
  rw [if_neg c0]
  by_cases c1 : (lcount l 1 1048576).2.2 ≠ 0
  · rw [if_pos c1]; simp only
    have := lget_err_range l 1
    unfold lcount
    split
    · simp only; omega
    · split
      · simp
      · omega
  rw [if_neg c1]
  by_cases c2 : (lraw l (lcount l 1 1048576).2.1 (lcount l 1 1048576).1).2.2 ≠ 0
  · rw [if_pos c2]; simp only; have := hlr (lcount l 1 1048576).2.1 (lcount l 1 1048576).1; omega
  rw [if_neg c2]
  simp only
  have := hlr (lraw l (lcount l 1 1048576).2.1 (lcount l 1 1048576).1).2.1 4
  omega

set_option maxRecDepth 100000 in
/-- What is wrong, a rest being none. -/
theorem wrong_any (a : Nat) (u v : ByteArray) (p : Nat) (er : Int) (w : World) (hs : u.size ≤ 1073741824) (hp : p ≤ u.size) (h5 : er ≠ 5) (h : Rd w a u p er) :
    Calls Tryz.prog 72 #[.agg #[.pointer (some ⟨a, 0, none⟩), .string v]] w fun e w' => e = .returned (.int .i64 er) ∧ Below w.heap.size w w' := by
  have hh : Rd (w.alloc (.cells #[.pointer (some ⟨a, 0, none⟩), .string v] 95)) a u p er := Blk.alloc h _
  have b0 := Blk.new w 95 #[.pointer (some ⟨a, 0, none⟩), .string v]
  have hB0 : Below w.heap.size w (w.alloc (.cells #[.pointer (some ⟨a, 0, none⟩), .string v] 95)) := (Below.refl _ _).alloc (Nat.le_refl _) _
  obtain ⟨c0, c1⟩ := b0.two
  have HE := Lib.hid (End_any a u p er _ hs hp hh)
  by_cases h1 : endOf u p er = 5
  · have he : er = 0 := by unfold endOf at h1; split at h1; exact absurd h1 h5; omega
    subst he
    rw [h1] at HE
    go_enter Tryz.func72, Tryz.ntmps72
    go_wp2_with fail
    refine HE.out.mono ?_
    rintro e w1 ⟨rfl, hb1⟩
    go_wp2
    go_ret
    exact ⟨rfl, hB0.trans (hb1.mono hB0.size)⟩
  · have he : endOf u p er = er := by unfold endOf at h1 ⊢; split; rfl; split; rename_i q1 q2; rw [if_neg q1, if_pos q2] at h1; exact absurd rfl h1; omega
    rw [he] at HE h1
    have e1 : (er != 5) = true := by simpa using h1
    clear he h1 h5
    go_enter Tryz.func72, Tryz.ntmps72
    go_wp2_with fail
    refine HE.out.mono ?_
    rintro e w1 ⟨rfl, hb1⟩
    go_wp2
    go_ret
    exact ⟨rfl, hB0.trans (hb1.mono hB0.size)⟩

set_option maxRecDepth 100000 in
theorem read_any (a : Nat) (u : ByteArray) (p : Nat) (er : Int) (w : World) (hp : p ≤ u.size) (h : Rd w a u p er) :
    Calls Tryz.prog 75 #[.agg #[.pointer (some ⟨a, 0, none⟩), .string u]] w fun e w' => e = .returned (.string (str (u.data.toList.take p))) ∧ Below w.heap.size w w' := by
  have hh : Rd (w.alloc (.cells #[.pointer (some ⟨a, 0, none⟩), .string u] 95)) a u p er := Blk.alloc h _
  have b0 := Blk.new w 95 #[.pointer (some ⟨a, 0, none⟩), .string u]
  have hB0 : Below w.heap.size w (w.alloc (.cells #[.pointer (some ⟨a, 0, none⟩), .string u] 95)) := (Below.refl _ _).alloc (Nat.le_refl _) _
  have hx := extract_str u 0 p
  rw [List.drop_zero, Nat.sub_zero] at hx
  have HX := Lib.hid hx
  clear hx
  have p0 : (0 : Int) ≤ (p : Int) := by omega
  have p1 : (p : Int) ≤ (u.size : Int) := by omega
  go_enter Tryz.func75, Tryz.ntmps75
  go_wp2_with fail
  generalize w.alloc (.cells #[.pointer (some ⟨a, 0, none⟩), .string u] 95) = W at *
  obtain ⟨c0, c1⟩ := b0.two
  obtain ⟨r0, r1, r2⟩ := hh.three
  have hBd := hB0.drew
  have hc0 : W.drew.cell? ⟨w.heap.size, 0, none⟩ = some (.pointer (some ⟨a, 0, none⟩)) := c0
  have hc1 : W.drew.cell? ⟨w.heap.size, 1, none⟩ = some (.string u) := c1
  have hr0 : W.drew.cell? ⟨a, 0, none⟩ = some (.string u) := r0
  have hr1 : W.drew.cell? ⟨a, 1, none⟩ = some (.int .i64 p) := r1
  have hl0 : w.heap.size < W.drew.heap.size := b0.lt
  have hl1 : a < W.drew.heap.size := Blk.lt hh
  have HA := Lib.hid (fun W => At_any u (p : Int) W)
  clear c0 c1 r0 r1 r2
  go_region_held3 (fun w' => w'.cell? ⟨w.heap.size, 0, none⟩ = some (.pointer (some ⟨a, 0, none⟩)) ∧ w'.cell? ⟨w.heap.size, 1, none⟩ = some (.string u) ∧ w'.cell? ⟨a, 0, none⟩ = some (.string u) ∧ w'.cell? ⟨a, 1, none⟩ = some (.int .i64 p)) (first | exact ⟨hc0, hc1, hr0, hr1⟩ | go_keep)
    (first
      | (go_at_call 76; (with_reducible refine (HA.out _).mono ?_); rintro e w2 ⟨rfl, hb2⟩; have hBd := hBd.trans (hb2.mono hBd.size); have hc0 := (hb2.cell (p := ⟨w.heap.size, 0, none⟩) hl0).trans hc0; have hc1 := (hb2.cell (p := ⟨w.heap.size, 1, none⟩) hl0).trans hc1; have hr0 := (hb2.cell (p := ⟨a, 0, none⟩) hl1).trans hr0; have hr1 := (hb2.cell (p := ⟨a, 1, none⟩) hl1).trans hr1))
  go_wp2
  go_ret
  exact ⟨by rw [← HX.out]; rfl, hBd⟩

end Go.Proofs.YtfjdbbhaigjbmaaGreat.Frame

namespace Go.Proofs.YtfjdbbhaigjbmaaGreat.Frame
open Go.RowKit Leb Mem Wire

set_option maxRecDepth 100000 in
theorem drop_str (s : ByteArray) (a : Nat) : (s.extract a s.size).data.toList = s.data.toList.drop a := by
  rw [extract_str, str_list, List.take_of_length_le (by rw [List.length_drop, len_of]; omega)]

set_option maxRecDepth 100000 in
/-- The first closure of Get: the place. -/
theorem get1_any (s : ByteArray) (a : Int) (b0 b1 : Nat) (w : World) (h0 : w.cell? ⟨b0, 0, none⟩ = some (.string s)) (h1 : w.cell? ⟨b1, 0, none⟩ = some (.int .i64 a)) :
    Calls Tryz.prog 69 #[.pointer (some ⟨b1, 0, none⟩), .pointer (some ⟨b0, 0, none⟩)] w fun e w' => e = .returned (.int .i64 (if 0 ≤ a ∧ a ≤ s.size then 0 else 1)) ∧ w' = w := by
  have HU := Lib.hid unless_any
  by_cases c0 : 0 ≤ a
  · by_cases c1 : a ≤ s.size
    · rw [if_pos ⟨c0, c1⟩]
      go_enter Tryz.func69, Tryz.ntmps69
      go_wp2_with (go_at_call 51; refine (HU.out _ _ _).mono ?_; rintro e w1 ⟨rfl, rfl⟩)
      go_ret
      exact ⟨rfl, rfl⟩
    · rw [if_neg (fun q => c1 q.2)]
      go_enter Tryz.func69, Tryz.ntmps69
      go_wp2_with (go_at_call 51; refine (HU.out _ _ _).mono ?_; rintro e w1 ⟨rfl, rfl⟩)
      go_ret
      exact ⟨rfl, rfl⟩
  · rw [if_neg (fun q => c0 q.1)]
    go_enter Tryz.func69, Tryz.ntmps69
    go_wp2_with (go_at_call 51; refine (HU.out _ _ _).mono ?_; rintro e w1 ⟨rfl, rfl⟩)
    go_ret
    exact ⟨rfl, rfl⟩

/-- What Get's variables hold, when the frame was read. -/
structure Got (s : ByteArray) (a : Nat) (b0 b1 f x : Nat) (r p er : Int) (R : Nat) (w : World) : Prop where
  str : Blk w b0 9 #[.string s]
  at_ : Blk w b1 3 #[.int .i64 a]
  fr : Blk w f 95 #[.pointer (some ⟨R, 0, none⟩), .string (s.extract a s.size)]
  se : Blk w x 34 #[.int .i64 (fsec (s.data.toList.drop a)).1.1, .string (Frame.str (fsec (s.data.toList.drop a)).1.2)]
  rd : Rd w R (s.extract a s.size) p er

set_option maxRecDepth 100000 in
set_option maxHeartbeats 1000000 in
theorem get2_any (s : ByteArray) (a : Nat) (hs : s.size ≤ 1073741824) (ha : a ≤ s.size) (b0 b1 f x : Nat) (v0 v1 x0 x1 : Value) (w : World)
    (h0 : Blk w b0 9 #[.string s]) (h1 : Blk w b1 3 #[.int .i64 a]) (hf : Blk w f 95 #[v0, v1]) (hx : Blk w x 34 #[x0, x1])
    (n0 : b0 ≠ f) (n1 : b1 ≠ f) (n2 : b0 ≠ x) (n3 : b1 ≠ x) (n4 : f ≠ x) :
    Calls Tryz.prog 70 #[.pointer (some ⟨b0, 0, none⟩), .pointer (some ⟨b1, 0, none⟩), .pointer (some ⟨f, 0, none⟩), .pointer (some ⟨x, 0, none⟩)] w fun e w' =>
      e = .returned (.int .i64 (fsec (s.data.toList.drop a)).2.2) ∧ (∃ R, w.heap.size ≤ R ∧ Got s a b0 b1 f x 0 (fsec (s.data.toList.drop a)).2.1 (fsec (s.data.toList.drop a)).2.2 R w') ∧ Kept (fun k => k = f ∨ k = x) w w' := by
  have i0 : (0 : Int) ≤ (a : Int) := by omega
  have i1 : (a : Int) ≤ (s.size : Int) := by omega
  obtain ⟨u, hu⟩ : ∃ u, s.extract a s.size = u := ⟨_, rfl⟩
  have hul : u.data.toList = s.data.toList.drop a := by rw [← hu]; exact drop_str s a
  have hus : u.size ≤ 1073741824 := by rw [← hu, ByteArray.size_extract]; omega
  obtain ⟨⟨⟨t, d⟩, p, er⟩, hfs⟩ : ∃ q, fsec (s.data.toList.drop a) = q := ⟨_, rfl⟩
  rw [hfs]
  have HFS := Lib.hid hfs
  clear hfs
  have HO := Lib.hid (fun W => Of_any u W)
  have hc0 : w.cell? ⟨b0, 0, none⟩ = some (.string s) := h0.cell 0
  have hc1 : w.cell? ⟨b1, 0, none⟩ = some (.int .i64 a) := h1.cell 0
  obtain ⟨y0, y1⟩ := hf.two
  have yf := hf.frozen
  go_enter Tryz.func70, Tryz.ntmps70
  go_wp2_with fail
  have hd0 : w.drew.cell? ⟨b0, 0, none⟩ = some (.string s) := hc0
  have hd1 : w.drew.cell? ⟨b1, 0, none⟩ = some (.int .i64 a) := hc1
  have l0 : b0 < w.drew.heap.size := h0.lt
  have l1 : b1 < w.drew.heap.size := h1.lt
  have hFd : Blk w.drew f 95 #[v0, v1] := hf
  have hXd : Blk w.drew x 34 #[x0, x1] := hx
  have h0d : Blk w.drew b0 9 #[.string s] := h0
  have h1d : Blk w.drew b1 3 #[.int .i64 a] := h1
  clear hc0 hc1 y0 y1 yf
  have a0 : ∀ j, (⟨f, j, none⟩ : Addr) ≠ ⟨b0, 0, none⟩ := fun j e => n0 (congrArg Addr.block e).symm
  have a1 : ∀ j, (⟨f, j, none⟩ : Addr) ≠ ⟨b1, 0, none⟩ := fun j e => n1 (congrArg Addr.block e).symm
  obtain ⟨y0, y1⟩ := hFd.two
  have yf := hFd.frozen
  go_region_held3 (fun w' => w'.cell? ⟨b0, 0, none⟩ = some (.string s) ∧ w'.cell? ⟨b1, 0, none⟩ = some (.int .i64 a)) (first | exact ⟨hd0, hd1⟩ | (exact ⟨by (repeat rw [World.cell?_setCell_other _ _ _ _ (a0 _)]); assumption, by (repeat rw [World.cell?_setCell_other _ _ _ _ (a1 _)]); assumption⟩) | go_keep)
    (first
      | (go_at_call 57; (with_reducible refine (HO.out _).mono ?_); rintro e w2 ⟨rfl, hRd, hb2⟩; have hd0 := (hb2.cell (p := ⟨b0, 0, none⟩) l0).trans hd0; have hd1 := (hb2.cell (p := ⟨b1, 0, none⟩) l1).trans hd1; have h0d := h0d.below hb2 l0; have h1d := h1d.below hb2 l1; have hXd := hXd.below hb2 hXd.lt; have hFd := hFd.below hb2 hFd.lt; have yf := hFd.frozen; obtain ⟨y0, y1⟩ := hFd.two))
  clear y0 y1 yf hd0 hd1 HO
  have hK1 : Kept (fun k => k = f ∨ k = x) w w2 := Kept.of_below (show Below w.heap.size w w2 from (Below.drew (Below.refl _ _)).trans hb2) (Nat.le_refl _)
  have hRl : w.heap.size ≠ f := fun e => by have := hf.lt; omega
  have hRx : w.heap.size ≠ x := fun e => by have := hx.lt; omega
  clear hb2
  have hK2 := (((hK1.setCell (p := ⟨f, 0, none⟩) (.inl (.inl rfl)) (.pointer none)).setCell (p := ⟨f, 1, none⟩) (.inl (.inl rfl)) (.string ⟨#[]⟩)).setCell (p := ⟨f, 0, none⟩) (.inl (.inl rfl)) (.pointer (some ⟨w.heap.size, 0, none⟩))).setCell (p := ⟨f, 1, none⟩) (.inl (.inl rfl)) (.string u)
  have hF2 : Blk _ f 95 #[.pointer (some ⟨w.heap.size, 0, none⟩), .string u] := (((hFd.set 0 (.pointer none)).set 1 (.string ⟨#[]⟩)).set 0 (.pointer (some ⟨w.heap.size, 0, none⟩))).set 1 (.string u)
  have h02 := (((h0d.apart (p := ⟨f, 0, none⟩) n0 (.pointer none)).apart (p := ⟨f, 1, none⟩) n0 (.string ⟨#[]⟩)).apart (p := ⟨f, 0, none⟩) n0 (.pointer (some ⟨w.heap.size, 0, none⟩))).apart (p := ⟨f, 1, none⟩) n0 (.string u)
  have h12 := (((h1d.apart (p := ⟨f, 0, none⟩) n1 (.pointer none)).apart (p := ⟨f, 1, none⟩) n1 (.string ⟨#[]⟩)).apart (p := ⟨f, 0, none⟩) n1 (.pointer (some ⟨w.heap.size, 0, none⟩))).apart (p := ⟨f, 1, none⟩) n1 (.string u)
  have hX2 := (((hXd.apart (p := ⟨f, 0, none⟩) (Ne.symm n4) (.pointer none)).apart (p := ⟨f, 1, none⟩) (Ne.symm n4) (.string ⟨#[]⟩)).apart (p := ⟨f, 0, none⟩) (Ne.symm n4) (.pointer (some ⟨w.heap.size, 0, none⟩))).apart (p := ⟨f, 1, none⟩) (Ne.symm n4) (.string u)
  have hR2 : Rd _ w.heap.size u 0 0 := (((Blk.apart hRd (p := ⟨f, 0, none⟩) hRl (.pointer none)).apart (p := ⟨f, 1, none⟩) hRl (.string ⟨#[]⟩)).apart (p := ⟨f, 0, none⟩) hRl (.pointer (some ⟨w.heap.size, 0, none⟩))).apart (p := ⟨f, 1, none⟩) hRl (.string u)
  clear hK1 hFd h0d h1d hXd hRd
  generalize (((w2.setCell ⟨f, 0, none⟩ (.pointer none)).setCell ⟨f, 1, none⟩ (.string ⟨#[]⟩)).setCell ⟨f, 0, none⟩ (.pointer (some ⟨w.heap.size, 0, none⟩))).setCell ⟨f, 1, none⟩ (.string u) = W at *
  obtain ⟨y0, y1⟩ := hF2.two
  obtain ⟨z0, z1⟩ := hX2.two
  have zf := hX2.frozen
  have HS := section_any (w := W) u hus hR2
  have hp := fsec_range u.data.toList
  have h5 := fsec_err u.data.toList
  rw [hul, HFS.out] at HS hp h5
  simp only at HS hp h5
  have hlen : (s.data.toList.drop a).length = u.size := by rw [← hul, len_of]
  rw [hlen] at hp
  obtain ⟨q, rfl⟩ := Int.eq_ofNat_of_zero_le hp.1
  have HS := Lib.hid HS
  have hq : q ≤ u.size := by omega
  clear hp hlen
  go_wp2_with fail
  refine HS.out.mono ?_
  rintro e w3 ⟨rfl, hR3, hk3⟩
  have hK3 : Kept (fun k => k = f ∨ k = x) w w3 := hK2.then hk3 (fun i hi => .inr (by rw [hi]; exact Nat.le_refl _))
  have hF3 := hF2.kept hk3 (Ne.symm hRl)
  have hX3 := hX2.kept hk3 (Ne.symm hRx)
  have h03 := h02.kept hk3 (fun e => by have := h0.lt; omega)
  have h13 := h12.kept hk3 (fun e => by have := h1.lt; omega)
  clear HS y0 y1 z0 z1 zf hK2 hF2 hX2 h02 h12 hR2 hk3
  obtain ⟨y0, y1⟩ := hF3.two
  obtain ⟨z0, z1⟩ := hX3.two
  have zf := hX3.frozen
  have hK4 := (hK3.setCell (p := ⟨x, 0, none⟩) (.inl (.inr rfl)) (.int .i64 t)).setCell (p := ⟨x, 1, none⟩) (.inl (.inr rfl)) (.string (str d))
  have hF4 := (hF3.apart (p := ⟨x, 0, none⟩) n4 (.int .i64 t)).apart (p := ⟨x, 1, none⟩) n4 (.string (str d))
  have h04 := (h03.apart (p := ⟨x, 0, none⟩) n2 (.int .i64 t)).apart (p := ⟨x, 1, none⟩) n2 (.string (str d))
  have h14 := (h13.apart (p := ⟨x, 0, none⟩) n3 (.int .i64 t)).apart (p := ⟨x, 1, none⟩) n3 (.string (str d))
  have hR4 : Rd _ w.heap.size u q er := (Blk.apart hR3 (p := ⟨x, 0, none⟩) hRx (.int .i64 t)).apart (p := ⟨x, 1, none⟩) hRx (.string (str d))
  have hX4 : Blk _ x 34 #[.int .i64 t, .string (str d)] := (hX3.set 0 (.int .i64 t)).set 1 (.string (str d))
  have HW := Lib.hid (wrong_any w.heap.size u u q er _ hus hq h5 hR4)
  obtain ⟨g0, g1⟩ := hF4.two
  clear hK3 hF3 h03 h13 hR3
  go_wp2_with fail
  refine HW.out.mono ?_
  rintro e w5 ⟨rfl, hb5⟩
  go_wp2
  go_ret
  refine ⟨rfl, ⟨w.heap.size, Nat.le_refl _, ⟨h04.below hb5 h04.lt, h14.below hb5 h14.lt, ?_, ?_, ?_⟩⟩, hK4.below hb5⟩
  · rw [hu]; exact hF4.below hb5 hF4.lt
  · rw [HFS.out]; exact hX4.below hb5 hX4.lt
  · rw [hu]; exact Blk.below hR4 hb5 (Blk.lt hR4)

end Go.Proofs.YtfjdbbhaigjbmaaGreat.Frame

namespace Go.Proofs.YtfjdbbhaigjbmaaGreat.Frame
open Go.RowKit Leb Mem Wire

set_option maxRecDepth 100000 in
/-- The third closure of Get: the sum. -/
theorem get3_any (u : ByteArray) (hus : u.size ≤ 1073741824) (f R p : Nat) (hp : p ≤ u.size) (er : Int) (w : World) (hf : Blk w f 95 #[.pointer (some ⟨R, 0, none⟩), .string u]) (hr : Rd w R u p er) :
    Calls Tryz.prog 73 #[.pointer (some ⟨f, 0, none⟩)] w fun e w' => e = .returned (.int .i64 (if Crc.good (u.data.toList.take p) then 0 else 6)) ∧ Below w.heap.size w w' := by
  obtain ⟨c0, c1⟩ := hf.two
  have HU := Lib.hid unless_any
  have HR := Lib.hid (read_any R u p er w hp hr)
  obtain ⟨l, hl⟩ : ∃ l, u.data.toList.take p = l := ⟨_, rfl⟩
  have hls : (str l).size ≤ 1073741824 := by rw [str_size, ← hl, List.length_take, len_of]; omega
  have HG := Lib.hid (fun W => Crc.Good_any (str l) hls W)
  rw [hl] at HR ⊢
  rw [str_list] at HG
  obtain ⟨b, hb⟩ : ∃ b, Crc.good l = b := ⟨_, rfl⟩
  rw [hb] at HG ⊢
  clear hl hb hls
  cases b
  all_goals
    go_enter Tryz.func73, Tryz.ntmps73
    go_wp2_with (first
      | (go_at_call 75; refine HR.out.mono ?_; rintro e w1 ⟨rfl, hb1⟩)
      | (go_at_call 74; refine (HG.out _).mono ?_; rintro e w2 ⟨rfl, hb2⟩)
      | (go_at_call 51; refine (HU.out _ _ _).mono ?_; rintro e w3 ⟨rfl, rfl⟩))
    go_ret
    exact ⟨rfl, below2 hb1 hb2⟩

/-- What Get's row of closures leaves, by how many were asked. -/
def Asked (s : ByteArray) (a : Int) (b0 b1 f x : Nat) (w : World) (i : Nat) (W : World) : Prop :=
  Kept (fun k => k = f ∨ k = x) w W ∧
  (if i = 0 then W = w else (0 ≤ a ∧ a ≤ s.size) ∧
    if i = 1 then W = w else ∃ p R : Nat, (fsec (s.data.toList.drop a.toNat)).2 = ((p : Int), 0) ∧ Got s a.toNat b0 b1 f x 0 p 0 R W ∧ w.heap.size ≤ R ∧ (2 < i → Crc.good ((s.data.toList.drop a.toNat).take p) = true))

set_option maxRecDepth 100000 in
set_option maxHeartbeats 1000000 in
theorem get_first (s : ByteArray) (a : Int) (hs : s.size ≤ 1073741824) (b0 b1 f x g c : Nat) (v0 v1 x0 x1 : Value) (w : World)
    (h0 : Blk w b0 9 #[.string s]) (h1 : Blk w b1 3 #[.int .i64 a]) (hf : Blk w f 95 #[v0, v1]) (hx : Blk w x 34 #[x0, x1])
    (hg : Blk w g 72 #[.func (.func 69) #[] #[.pointer (some ⟨b1, 0, none⟩), .pointer (some ⟨b0, 0, none⟩)],
      .func (.func 70) #[] #[.pointer (some ⟨b0, 0, none⟩), .pointer (some ⟨b1, 0, none⟩), .pointer (some ⟨f, 0, none⟩), .pointer (some ⟨x, 0, none⟩)],
      .func (.func 73) #[] #[.pointer (some ⟨f, 0, none⟩)]])
    (n0 : b0 ≠ f) (n1 : b1 ≠ f) (n2 : b0 ≠ x) (n3 : b1 ≠ x) (n4 : f ≠ x) (n5 : g ≠ f) (n6 : g ≠ x) :
    Calls Tryz.prog 49 #[.slice (some ⟨g, 0, none⟩) 3 c] w fun e w' => e = .returned (.int .i64 (fget s.data.toList a).2.2) ∧ Kept (fun k => k = f ∨ k = x) w w' ∧
      ((fget s.data.toList a).2.2 = 0 → ∃ p R : Nat, Got s a.toNat b0 b1 f x 0 p 0 R w' ∧ w.heap.size ≤ R ∧ fget s.data.toList a = ((fsec (s.data.toList.drop a.toNat)).1, a + p, 0)) := by
  have hG : ∀ W, Kept (fun k => k = f ∨ k = x) w W → Blk W g _ _ := fun W hk => hg.kept hk (by rintro (h | h); exact n5 h; exact n6 h)
  refine (first_any [(69, #[.pointer (some ⟨b1, 0, none⟩), .pointer (some ⟨b0, 0, none⟩)]), (70, #[.pointer (some ⟨b0, 0, none⟩), .pointer (some ⟨b1, 0, none⟩), .pointer (some ⟨f, 0, none⟩), .pointer (some ⟨x, 0, none⟩)]), (73, #[.pointer (some ⟨f, 0, none⟩)])] g c
    (Asked s a b0 b1 f x w) (fun er W => Kept (fun k => k = f ∨ k = x) w W ∧ (fget s.data.toList a).2.2 = er) ?_ ?_ ?_ (by simp) w ⟨Kept.refl _ _, by simp⟩).mono ?_
  · rintro i fn cs hfn W ⟨hk, -⟩
    rcases i with _ | _ | _ | i
    · simp at hfn; obtain ⟨rfl, rfl⟩ := hfn; exact (hG W hk).cell 0
    · simp at hfn; obtain ⟨rfl, rfl⟩ := hfn; exact (hG W hk).cell 1
    · simp at hfn; obtain ⟨rfl, rfl⟩ := hfn; exact (hG W hk).cell 2
    · simp at hfn
  · rintro i fn cs hfn W ⟨hk, hi⟩
    rcases i with _ | _ | _ | i
    · simp at hfn; obtain ⟨rfl, rfl⟩ := hfn
      rw [if_pos rfl] at hi
      subst hi
      refine (get1_any s a b0 b1 _ (h0.cell 0) (h1.cell 0)).mono ?_
      rintro e w' ⟨rfl, rfl⟩
      refine ⟨_, rfl, ?_⟩
      by_cases q : 0 ≤ a ∧ a ≤ s.size
      · rw [if_pos q]; exact .inl ⟨rfl, Kept.refl _ _, by rw [if_neg (by omega)]; exact ⟨q, by rw [if_pos rfl]⟩⟩
      · rw [if_neg q]; exact .inr ⟨by omega, Kept.refl _ _, by rw [fget_arg (by rw [len_of]; omega)]⟩
    · simp at hfn; obtain ⟨rfl, rfl⟩ := hfn
      rw [if_neg (by omega), if_pos rfl] at hi
      obtain ⟨⟨q0, q1⟩, rfl⟩ := hi
      obtain ⟨k, rfl⟩ := Int.eq_ofNat_of_zero_le q0
      refine (get2_any s k hs (by omega) b0 b1 f x v0 v1 x0 x1 _ h0 h1 hf hx n0 n1 n2 n3 n4).mono ?_
      rintro e w' ⟨rfl, ⟨R, hR, hgot⟩, hk'⟩
      refine ⟨_, rfl, ?_⟩
      have hfg := fget_sec s.data.toList k (by rw [len_of]; omega)
      by_cases q : (fsec (s.data.toList.drop k)).2.2 = 0
      · have hpr := fsec_range (s.data.toList.drop k)
        obtain ⟨p, hp⟩ := Int.eq_ofNat_of_zero_le hpr.1
        refine .inl ⟨q, hk', ?_⟩
        rw [if_neg (by omega), if_neg (by omega)]
        refine ⟨⟨q0, q1⟩, p, R, ?_, ?_, hR, by omega⟩
        · rw [Int.toNat_natCast]; exact Prod.ext hp q
        · rw [Int.toNat_natCast]; rw [q, hp] at hgot; exact hgot
      · exact .inr ⟨q, hk', by rw [hfg, if_pos q]⟩
    · simp at hfn; obtain ⟨rfl, rfl⟩ := hfn
      rw [if_neg (by omega), if_neg (by omega)] at hi
      obtain ⟨⟨q0, q1⟩, p, R, hp, hgot, hR, -⟩ := hi
      obtain ⟨k, rfl⟩ := Int.eq_ofNat_of_zero_le q0
      rw [Int.toNat_natCast] at hp hgot
      have hul := drop_str s k
      have hpr := fsec_range (s.data.toList.drop k)
      have hpl : p ≤ (s.extract k s.size).size := by rw [← len_of, hul]; have := congrArg Prod.fst hp; simp only at this; omega
      refine (get3_any (s.extract k s.size) (by rw [ByteArray.size_extract]; omega) f R p hpl 0 W hgot.fr hgot.rd).mono ?_
      rintro e w' ⟨rfl, hb⟩
      refine ⟨_, rfl, ?_⟩
      rw [hul]
      have hfg := fget_sec s.data.toList k (by rw [len_of]; omega)
      have e2 := congrArg Prod.snd hp
      have e1 := congrArg Prod.fst hp
      simp only at e1 e2
      rw [if_neg (by omega), e1, Int.toNat_natCast] at hfg
      by_cases q : Crc.good ((s.data.toList.drop k).take p) = true
      · rw [if_pos q]
        refine .inl ⟨rfl, hk.below hb, ?_⟩
        rw [if_neg (by omega), if_neg (by omega)]
        refine ⟨⟨q0, q1⟩, p, R, ?_, ?_, hR, fun _ => ?_⟩
        · rw [Int.toNat_natCast]; exact hp
        · rw [Int.toNat_natCast]
          exact ⟨hgot.str.below hb hgot.str.lt, hgot.at_.below hb hgot.at_.lt, hgot.fr.below hb hgot.fr.lt, hgot.se.below hb hgot.se.lt, Blk.below hgot.rd hb (Blk.lt hgot.rd)⟩
        · rw [Int.toNat_natCast]; exact q
      · rw [if_neg q] at hfg ⊢
        exact .inr ⟨by omega, hk.below hb, by rw [hfg]⟩
    · simp at hfn
  · intro i fn cs hfn W
    rcases i with _ | _ | _ | i
    · simp at hfn; obtain ⟨rfl, rfl⟩ := hfn; rfl
    · simp at hfn; obtain ⟨rfl, rfl⟩ := hfn; rfl
    · simp at hfn; obtain ⟨rfl, rfl⟩ := hfn; rfl
    · simp at hfn
  · rintro e w' ⟨er, rfl, (⟨rfl, hk, hi⟩ | ⟨hne, hk, hi⟩)⟩
    · rw [if_neg (by simp), if_neg (by simp)] at hi
      obtain ⟨⟨q0, q1⟩, p, R, hp, hgot, hR, hgood⟩ := hi
      obtain ⟨k, rfl⟩ := Int.eq_ofNat_of_zero_le q0
      rw [Int.toNat_natCast] at hp hgot hgood
      have hfg := fget_sec s.data.toList k (by rw [len_of]; omega)
      have e2 := congrArg Prod.snd hp
      have e1 := congrArg Prod.fst hp
      simp only at e1 e2
      rw [if_neg (by omega), e1, Int.toNat_natCast, if_pos (hgood (by simp))] at hfg
      refine ⟨by rw [hfg], hk, fun _ => ⟨p, R, ?_, hR, ?_⟩⟩
      · rw [Int.toNat_natCast]; exact hgot
      · rw [Int.toNat_natCast]; exact hfg
    · exact ⟨by rw [hi], hk, fun h => absurd (hi.symm.trans h) hne⟩

end Go.Proofs.YtfjdbbhaigjbmaaGreat.Frame

namespace Go.Proofs.YtfjdbbhaigjbmaaGreat.Frame
open Go.RowKit Leb Mem Wire

set_option maxRecDepth 100000 in
set_option maxHeartbeats 1000000 in
theorem Get_any (s : ByteArray) (a : Int) (hs : s.size ≤ 1073741824) (w : World) : Calls Tryz.prog 60 #[.string s, .int .i64 a] w (FGetEnds s a w) := by
  have k0 := ((((((Blk.new w 9 #[.string s]).alloc (.cells #[.int .i64 a] 3)).alloc (.cells #[.int .i64 0, .string ⟨#[]⟩] 34)).alloc (.cells #[.pointer none, .string ⟨#[]⟩] 95)).alloc (.cells #[.int .i64 0, .string ⟨#[]⟩] 34)).alloc (.cells #[.func (.func 69) #[] #[.pointer (some ⟨w.heap.size + 1, 0, none⟩), .pointer (some ⟨w.heap.size, 0, none⟩)], .func (.func 70) #[] #[.pointer (some ⟨w.heap.size, 0, none⟩), .pointer (some ⟨w.heap.size + 1, 0, none⟩), .pointer (some ⟨w.heap.size + 1 + 1 + 1, 0, none⟩), .pointer (some ⟨w.heap.size + 1 + 1 + 1 + 1, 0, none⟩)], .func (.func 73) #[] #[.pointer (some ⟨w.heap.size + 1 + 1 + 1, 0, none⟩)]] 72))
  have k1 := (((((Blk.new (w.alloc (.cells #[.string s] 9)) 3 #[.int .i64 a]).alloc (.cells #[.int .i64 0, .string ⟨#[]⟩] 34)).alloc (.cells #[.pointer none, .string ⟨#[]⟩] 95)).alloc (.cells #[.int .i64 0, .string ⟨#[]⟩] 34)).alloc (.cells #[.func (.func 69) #[] #[.pointer (some ⟨w.heap.size + 1, 0, none⟩), .pointer (some ⟨w.heap.size, 0, none⟩)], .func (.func 70) #[] #[.pointer (some ⟨w.heap.size, 0, none⟩), .pointer (some ⟨w.heap.size + 1, 0, none⟩), .pointer (some ⟨w.heap.size + 1 + 1 + 1, 0, none⟩), .pointer (some ⟨w.heap.size + 1 + 1 + 1 + 1, 0, none⟩)], .func (.func 73) #[] #[.pointer (some ⟨w.heap.size + 1 + 1 + 1, 0, none⟩)]] 72))
  have k2 := ((((Blk.new ((w.alloc (.cells #[.string s] 9)).alloc (.cells #[.int .i64 a] 3)) 34 #[.int .i64 0, .string ⟨#[]⟩]).alloc (.cells #[.pointer none, .string ⟨#[]⟩] 95)).alloc (.cells #[.int .i64 0, .string ⟨#[]⟩] 34)).alloc (.cells #[.func (.func 69) #[] #[.pointer (some ⟨w.heap.size + 1, 0, none⟩), .pointer (some ⟨w.heap.size, 0, none⟩)], .func (.func 70) #[] #[.pointer (some ⟨w.heap.size, 0, none⟩), .pointer (some ⟨w.heap.size + 1, 0, none⟩), .pointer (some ⟨w.heap.size + 1 + 1 + 1, 0, none⟩), .pointer (some ⟨w.heap.size + 1 + 1 + 1 + 1, 0, none⟩)], .func (.func 73) #[] #[.pointer (some ⟨w.heap.size + 1 + 1 + 1, 0, none⟩)]] 72))
  have k3 := (((Blk.new (((w.alloc (.cells #[.string s] 9)).alloc (.cells #[.int .i64 a] 3)).alloc (.cells #[.int .i64 0, .string ⟨#[]⟩] 34)) 95 #[.pointer none, .string ⟨#[]⟩]).alloc (.cells #[.int .i64 0, .string ⟨#[]⟩] 34)).alloc (.cells #[.func (.func 69) #[] #[.pointer (some ⟨w.heap.size + 1, 0, none⟩), .pointer (some ⟨w.heap.size, 0, none⟩)], .func (.func 70) #[] #[.pointer (some ⟨w.heap.size, 0, none⟩), .pointer (some ⟨w.heap.size + 1, 0, none⟩), .pointer (some ⟨w.heap.size + 1 + 1 + 1, 0, none⟩), .pointer (some ⟨w.heap.size + 1 + 1 + 1 + 1, 0, none⟩)], .func (.func 73) #[] #[.pointer (some ⟨w.heap.size + 1 + 1 + 1, 0, none⟩)]] 72))
  have k4 := ((Blk.new ((((w.alloc (.cells #[.string s] 9)).alloc (.cells #[.int .i64 a] 3)).alloc (.cells #[.int .i64 0, .string ⟨#[]⟩] 34)).alloc (.cells #[.pointer none, .string ⟨#[]⟩] 95)) 34 #[.int .i64 0, .string ⟨#[]⟩]).alloc (.cells #[.func (.func 69) #[] #[.pointer (some ⟨w.heap.size + 1, 0, none⟩), .pointer (some ⟨w.heap.size, 0, none⟩)], .func (.func 70) #[] #[.pointer (some ⟨w.heap.size, 0, none⟩), .pointer (some ⟨w.heap.size + 1, 0, none⟩), .pointer (some ⟨w.heap.size + 1 + 1 + 1, 0, none⟩), .pointer (some ⟨w.heap.size + 1 + 1 + 1 + 1, 0, none⟩)], .func (.func 73) #[] #[.pointer (some ⟨w.heap.size + 1 + 1 + 1, 0, none⟩)]] 72))
  have k5 := (Blk.new (((((w.alloc (.cells #[.string s] 9)).alloc (.cells #[.int .i64 a] 3)).alloc (.cells #[.int .i64 0, .string ⟨#[]⟩] 34)).alloc (.cells #[.pointer none, .string ⟨#[]⟩] 95)).alloc (.cells #[.int .i64 0, .string ⟨#[]⟩] 34)) 72 #[.func (.func 69) #[] #[.pointer (some ⟨w.heap.size + 1, 0, none⟩), .pointer (some ⟨w.heap.size, 0, none⟩)], .func (.func 70) #[] #[.pointer (some ⟨w.heap.size, 0, none⟩), .pointer (some ⟨w.heap.size + 1, 0, none⟩), .pointer (some ⟨w.heap.size + 1 + 1 + 1, 0, none⟩), .pointer (some ⟨w.heap.size + 1 + 1 + 1 + 1, 0, none⟩)], .func (.func 73) #[] #[.pointer (some ⟨w.heap.size + 1 + 1 + 1, 0, none⟩)]])
  have hB0 : Below w.heap.size w _ := (((((((Below.refl w.heap.size w).alloc (by simp <;> omega) (.cells #[.string s] 9)).alloc (by simp <;> omega) (.cells #[.int .i64 a] 3)).alloc (by simp <;> omega) (.cells #[.int .i64 0, .string ⟨#[]⟩] 34)).alloc (by simp <;> omega) (.cells #[.pointer none, .string ⟨#[]⟩] 95)).alloc (by simp <;> omega) (.cells #[.int .i64 0, .string ⟨#[]⟩] 34)).alloc (by simp <;> omega) (.cells #[.func (.func 69) #[] #[.pointer (some ⟨w.heap.size + 1, 0, none⟩), .pointer (some ⟨w.heap.size, 0, none⟩)], .func (.func 70) #[] #[.pointer (some ⟨w.heap.size, 0, none⟩), .pointer (some ⟨w.heap.size + 1, 0, none⟩), .pointer (some ⟨w.heap.size + 1 + 1 + 1, 0, none⟩), .pointer (some ⟨w.heap.size + 1 + 1 + 1 + 1, 0, none⟩)], .func (.func 73) #[] #[.pointer (some ⟨w.heap.size + 1 + 1 + 1, 0, none⟩)]] 72))
  simp only [World.size_alloc] at k0 k1 k2 k3 k4 k5
  have HF := Lib.hid (get_first s a hs _ _ _ _ _ 3 _ _ _ _ _ k0 k1 k3 k4 k5 (by omega) (by omega) (by omega) (by omega) (by omega) (by omega) (by omega))
  have hB1 : Below w.heap.size w ((((((w.alloc (.cells #[.string s] 9)).alloc (.cells #[.int .i64 a] 3)).alloc (.cells #[.int .i64 0, .string ⟨#[]⟩] 34)).alloc (.cells #[.pointer none, .string ⟨#[]⟩] 95)).alloc (.cells #[.int .i64 0, .string ⟨#[]⟩] 34)).alloc (.cells #[.func (.func 69) #[] #[.pointer (some ⟨w.heap.size + 1, 0, none⟩), .pointer (some ⟨w.heap.size, 0, none⟩)], .func (.func 70) #[] #[.pointer (some ⟨w.heap.size, 0, none⟩), .pointer (some ⟨w.heap.size + 1, 0, none⟩), .pointer (some ⟨w.heap.size + 1 + 1 + 1, 0, none⟩), .pointer (some ⟨w.heap.size + 1 + 1 + 1 + 1, 0, none⟩)], .func (.func 73) #[] #[.pointer (some ⟨w.heap.size + 1 + 1 + 1, 0, none⟩)]] 72)) := hB0
  have hlt : w.heap.size + 1 + 1 + 1 + 1 < ((((((w.alloc (.cells #[.string s] 9)).alloc (.cells #[.int .i64 a] 3)).alloc (.cells #[.int .i64 0, .string ⟨#[]⟩] 34)).alloc (.cells #[.pointer none, .string ⟨#[]⟩] 95)).alloc (.cells #[.int .i64 0, .string ⟨#[]⟩] 34)).alloc (.cells #[.func (.func 69) #[] #[.pointer (some ⟨w.heap.size + 1, 0, none⟩), .pointer (some ⟨w.heap.size, 0, none⟩)], .func (.func 70) #[] #[.pointer (some ⟨w.heap.size, 0, none⟩), .pointer (some ⟨w.heap.size + 1, 0, none⟩), .pointer (some ⟨w.heap.size + 1 + 1 + 1, 0, none⟩), .pointer (some ⟨w.heap.size + 1 + 1 + 1 + 1, 0, none⟩)], .func (.func 73) #[] #[.pointer (some ⟨w.heap.size + 1 + 1 + 1, 0, none⟩)]] 72)).heap.size := k4.lt
  clear hB0
  by_cases hz : (fget s.data.toList a).2.2 = 0
  · rw [hz] at HF
    go_enter Tryz.func60, Tryz.ntmps60
    go_wp2_with fail
    generalize ((((((w.alloc (.cells #[.string s] 9)).alloc (.cells #[.int .i64 a] 3)).alloc (.cells #[.int .i64 0, .string ⟨#[]⟩] 34)).alloc (.cells #[.pointer none, .string ⟨#[]⟩] 95)).alloc (.cells #[.int .i64 0, .string ⟨#[]⟩] 34)).alloc (.cells #[.func (.func 69) #[] #[.pointer (some ⟨w.heap.size + 1, 0, none⟩), .pointer (some ⟨w.heap.size, 0, none⟩)], .func (.func 70) #[] #[.pointer (some ⟨w.heap.size, 0, none⟩), .pointer (some ⟨w.heap.size + 1, 0, none⟩), .pointer (some ⟨w.heap.size + 1 + 1 + 1, 0, none⟩), .pointer (some ⟨w.heap.size + 1 + 1 + 1 + 1, 0, none⟩)], .func (.func 73) #[] #[.pointer (some ⟨w.heap.size + 1 + 1 + 1, 0, none⟩)]] 72)) = W at *
    refine HF.out.mono ?_
    rintro e w1 ⟨rfl, hk, hg⟩
    obtain ⟨p, R, hgot, hR, hfg⟩ := hg (by trivial)
    have r2 := k2.kept hk (by omega)
    have hB2 : Below w.heap.size w w1 := hB1.trans (hk.to_below (Nat.le_of_lt (by omega)) (by rintro k (rfl | rfl) <;> omega))
    clear HF k0 k1 k2 k3 k4 k5 hg hk hB1
    have hRn : R ≠ w.heap.size + 1 + 1 := by omega
    obtain ⟨q0, q1, q2, q3, q4⟩ := hgot
    obtain ⟨⟨t, d⟩, hd⟩ : ∃ q, (fsec (s.data.toList.drop a.toNat)).1 = q := ⟨_, rfl⟩
    rw [hd] at q3 hfg
    obtain ⟨g1, g2, g3, -⟩ := fget_only s.data.toList a (by rw [hfg])
    rw [hfg] at g2 g3
    simp only at g2 g3
    rw [len_of] at g3
    have hw : IntKind.i64.wrap (a + (p : Int)) = a + (p : Int) := IntWalk.i64_in _ (by omega)
    have HE := Lib.hid hfg
    clear hfg hd hz
    obtain ⟨u, hu⟩ : ∃ u, s.extract a.toNat s.size = u := ⟨_, rfl⟩
    rw [hu] at q2 q4
    have q1 : Blk w1 (w.heap.size + 1) 3 #[.int .i64 a] := by have := q1; rw [show ((a.toNat : Nat) : Int) = a by omega] at this; exact this
    go_wp2_with fail
    obtain ⟨c0, c1⟩ := q3.two
    obtain ⟨c4, c5⟩ := q2.two
    obtain ⟨c6, c7, -⟩ := q4.three
    have c2 := q1.cell 0
    simp only [List.getElem?_toArray, List.getElem?_cons_zero] at c2
    have HA := Lib.hid (fun W => At_any u (p : Int) W)
    have l3 : w.heap.size + 1 + 1 + 1 + 1 < w1.drew.heap.size := q3.lt
    have l1 : w.heap.size + 1 < w1.drew.heap.size := q1.lt
    have l2 : w.heap.size + 1 + 1 + 1 < w1.drew.heap.size := q2.lt
    have l4 : R < w1.drew.heap.size := Blk.lt q4
    have rD : Blk w1.drew (w.heap.size + 1 + 1) 34 _ := r2
    have hBD := hB2.drew
    have c0 : w1.drew.cell? ⟨w.heap.size + 1 + 1 + 1 + 1, 0, none⟩ = some (.int .i64 t) := c0
    have c1 : w1.drew.cell? ⟨w.heap.size + 1 + 1 + 1 + 1, 1, none⟩ = some (.string (str d)) := c1
    have c2 : w1.drew.cell? ⟨w.heap.size + 1, 0, none⟩ = some (.int .i64 a) := c2
    have c4 : w1.drew.cell? ⟨w.heap.size + 1 + 1 + 1, 0, none⟩ = some (.pointer (some ⟨R, 0, none⟩)) := c4
    have c6 : w1.drew.cell? ⟨R, 0, none⟩ = some (.string u) := c6
    have c7 : w1.drew.cell? ⟨R, 1, none⟩ = some (.int .i64 p) := c7
    clear q1 q2 q3 q4 r2 hB2
    have a0 : ∀ j i, (⟨w.heap.size + 1 + 1, j, none⟩ : Addr) ≠ ⟨w.heap.size + 1 + 1 + 1 + 1, i, none⟩ := fun j i e => by have := congrArg Addr.block e; simp at this
    have a1 : ∀ j, (⟨w.heap.size + 1 + 1, j, none⟩ : Addr) ≠ ⟨w.heap.size + 1, 0, none⟩ := fun j e => by have := congrArg Addr.block e; simp at this
    have a2 : ∀ j, (⟨w.heap.size + 1 + 1, j, none⟩ : Addr) ≠ ⟨w.heap.size + 1 + 1 + 1, 0, none⟩ := fun j e => by have := congrArg Addr.block e; simp at this
    have a3 : ∀ j i, (⟨w.heap.size + 1 + 1, j, none⟩ : Addr) ≠ ⟨R, i, none⟩ := fun j i e => hRn (congrArg Addr.block e).symm
    obtain ⟨y0, y1⟩ := rD.two
    have yf := rD.frozen
    go_region_held3 (fun w' => w'.cell? ⟨w.heap.size + 1 + 1 + 1 + 1, 0, none⟩ = some (.int .i64 t) ∧ w'.cell? ⟨w.heap.size + 1 + 1 + 1 + 1, 1, none⟩ = some (.string (str d)) ∧ w'.cell? ⟨w.heap.size + 1, 0, none⟩ = some (.int .i64 a) ∧ w'.cell? ⟨w.heap.size + 1 + 1 + 1, 0, none⟩ = some (.pointer (some ⟨R, 0, none⟩)) ∧ w'.cell? ⟨R, 0, none⟩ = some (.string u) ∧ w'.cell? ⟨R, 1, none⟩ = some (.int .i64 p))
      (first | exact ⟨c0, c1, c2, c4, c6, c7⟩ | (exact ⟨by (repeat rw [World.cell?_setCell_other _ _ _ _ (a0 _ _)]); assumption, by (repeat rw [World.cell?_setCell_other _ _ _ _ (a0 _ _)]); assumption, by (repeat rw [World.cell?_setCell_other _ _ _ _ (a1 _)]); assumption, by (repeat rw [World.cell?_setCell_other _ _ _ _ (a2 _)]); assumption, by (repeat rw [World.cell?_setCell_other _ _ _ _ (a3 _ _)]); assumption, by (repeat rw [World.cell?_setCell_other _ _ _ _ (a3 _ _)]); assumption⟩) | go_keep)
      (first
        | (go_at_call 76; (with_reducible refine (HA.out _).mono ?_); rintro e w2 ⟨rfl, hb2⟩; have hBD := hBD.trans (hb2.mono hBD.size); have c0 := (hb2.cell (p := ⟨w.heap.size + 1 + 1 + 1 + 1, 0, none⟩) l3).trans c0; have c1 := (hb2.cell (p := ⟨w.heap.size + 1 + 1 + 1 + 1, 1, none⟩) l3).trans c1; have c2 := (hb2.cell (p := ⟨w.heap.size + 1, 0, none⟩) l1).trans c2; have c4 := (hb2.cell (p := ⟨w.heap.size + 1 + 1 + 1, 0, none⟩) l2).trans c4; have c6 := (hb2.cell (p := ⟨R, 0, none⟩) l4).trans c6; have c7 := (hb2.cell (p := ⟨R, 1, none⟩) l4).trans c7; have rD := rD.below hb2 rD.lt; have yf := rD.frozen; obtain ⟨y0, y1⟩ := rD.two))
    all_goals go_wp2_with fail
    all_goals refine bodyPost_ret (v := .tuple #[.agg #[.int .i64 t, .string (str d)], .int .i64 (a + (p : Int)), .int .i64 0]) (by simp [results, Tryz.results60, go_sem, y0, y1]) rfl ?_
    all_goals refine FGetEnds.mk HE.out rfl ?_
    all_goals exact ((hBD.setCell (p := ⟨w.heap.size + 1 + 1, 0, none⟩) (by show w.heap.size ≤ w.heap.size + 1 + 1; omega) _).setCell (p := ⟨w.heap.size + 1 + 1, 1, none⟩) (by show w.heap.size ≤ w.heap.size + 1 + 1; omega) _)
  · obtain ⟨h1, h2⟩ := fget_err s.data.toList a hz
    obtain ⟨⟨x, b, er⟩, hl⟩ : ∃ q, fget s.data.toList a = q := ⟨_, rfl⟩
    rw [hl] at h1 h2 hz HF
    simp only at h1 h2 hz HF
    subst h1
    have h2 := h2.symm
    subst h2
    have HE := Lib.hid hl
    have e1 : (er != 0) = true := by simpa using hz
    clear hl hz
    go_enter Tryz.func60, Tryz.ntmps60
    go_wp2_with fail
    generalize ((((((w.alloc (.cells #[.string s] 9)).alloc (.cells #[.int .i64 a] 3)).alloc (.cells #[.int .i64 0, .string ⟨#[]⟩] 34)).alloc (.cells #[.pointer none, .string ⟨#[]⟩] 95)).alloc (.cells #[.int .i64 0, .string ⟨#[]⟩] 34)).alloc (.cells #[.func (.func 69) #[] #[.pointer (some ⟨w.heap.size + 1, 0, none⟩), .pointer (some ⟨w.heap.size, 0, none⟩)], .func (.func 70) #[] #[.pointer (some ⟨w.heap.size, 0, none⟩), .pointer (some ⟨w.heap.size + 1, 0, none⟩), .pointer (some ⟨w.heap.size + 1 + 1 + 1, 0, none⟩), .pointer (some ⟨w.heap.size + 1 + 1 + 1 + 1, 0, none⟩)], .func (.func 73) #[] #[.pointer (some ⟨w.heap.size + 1 + 1 + 1, 0, none⟩)]] 72)) = W at *
    refine HF.out.mono ?_
    rintro e w1 ⟨rfl, hk, -⟩
    have r1 := k1.kept hk (by omega)
    have r2 := k2.kept hk (by omega)
    have hB2 : Below w.heap.size w w1 := hB1.trans (hk.to_below (Nat.le_of_lt (by omega)) (by rintro k (rfl | rfl) <;> omega))
    clear HF k0 k1 k2 k3 k4 k5 hk hB1
    have c0 := r1.cell 0
    simp only [List.getElem?_toArray, List.getElem?_cons_zero] at c0
    obtain ⟨y0, y1⟩ := r2.two
    have yf := r2.frozen
    go_wp2_with fail
    go_region
    all_goals go_wp2_with fail
    all_goals refine bodyPost_ret (v := .tuple #[.agg #[.int .i64 0, .string ⟨#[]⟩], .int .i64 a, .int .i64 er]) (by simp [results, Tryz.results60, go_sem, y0, y1]) rfl ?_
    all_goals refine FGetEnds.mk HE.out rfl ?_
    all_goals exact (((hB2.setCell (p := ⟨w.heap.size + 1 + 1, 0, none⟩) (by show w.heap.size ≤ w.heap.size + 1 + 1; omega) _).setCell (p := ⟨w.heap.size + 1 + 1, 1, none⟩) (by show w.heap.size ≤ w.heap.size + 1 + 1; omega) _)).drew

end Go.Proofs.YtfjdbbhaigjbmaaGreat.Frame
