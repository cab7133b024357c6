/-
  The document's own text for layer 6, walked: what stands at a place.
-/
import Derived.Test.YthimplhfmamejaaFrameRef2
import Derived.BigRegion
namespace Go.Proofs.Ythimplhfmamejaa.Frame
open Go.RowKit Leb Mem

/-- What getting comes to. -/
def FGetEnds (s : ByteArray) (a : Int) (w : World) (e : Ending) (w' : World) : Prop :=
  e = .returned (.tuple #[.agg #[.int .i64 (fget s.data.toList a).1.1, .string (str (fget s.data.toList a).1.2)], .int .i64 (fget s.data.toList a).2.1, .int .i64 (fget s.data.toList a).2.2]) ∧ Below w.heap.size w w'
theorem FGetEnds.mk {s u : ByteArray} {a t b c : Int} {d : List UInt8} {w w' : World} (h : fget s.data.toList a = ((t, d), b, c)) (hu : u = str d) (hb : Below w.heap.size w w') : FGetEnds s a w (.returned (.tuple #[.agg #[.int .i64 t, .string u], .int .i64 b, .int .i64 c])) w' :=
  ⟨by rw [h, hu], hb⟩
theorem FGetEnds.to {s : ByteArray} {a t b c : Int} {d : List UInt8} {w w' : World} {e : Ending} (h : FGetEnds s a w e w') (hl : fget s.data.toList a = ((t, d), b, c)) : e = .returned (.tuple #[.agg #[.int .i64 t, .string (str d)], .int .i64 b, .int .i64 c]) ∧ Below w.heap.size w w' := by
  obtain ⟨h1, h2⟩ := h
  rw [hl] at h1
  exact ⟨h1, h2⟩

/-! ### The ways through, told apart -/
theorem fget_arg {l : List UInt8} {a : Int} (h : a < 0 ∨ (l.length : Int) < a) : fget l a = ((0, []), a, 1) := by unfold fget; rw [if_pos h]
theorem fget_end {l : List UInt8} : fget l l.length = ((0, []), (l.length : Int), 2) := by unfold fget; rw [if_neg (by omega), if_pos rfl]
theorem fget_num {l : List UInt8} {a c : Int} {n : Nat} {b : Int} (h0 : 0 ≤ a) (h1 : a < l.length) (hl : lget l (a + 1) = (n, b, c)) (hc : c ≠ 0) : fget l a = ((0, []), a, c) := by
  unfold fget; rw [if_neg (by omega), if_neg (by omega), hl, if_pos hc]
theorem fget_large {l : List UInt8} {a : Int} {n : Nat} {b : Int} (h0 : 0 ≤ a) (h1 : a < l.length) (hl : lget l (a + 1) = (n, b, 0)) (hn : 1048576 < n) : fget l a = ((0, []), a, 4) := by
  unfold fget; rw [if_neg (by omega), if_neg (by omega), hl, if_neg (by simp), if_pos hn]
theorem fget_short {l : List UInt8} {a : Int} {n : Nat} {b : Int} (h0 : 0 ≤ a) (h1 : a < l.length) (hl : lget l (a + 1) = (n, b, 0)) (hn : n ≤ 1048576) (hs : (l.length : Int) - b < n + 4) : fget l a = ((0, []), a, 2) := by
  unfold fget; rw [if_neg (by omega), if_neg (by omega), hl, if_neg (by simp), if_neg (by omega), if_pos hs]
theorem fget_sum {l : List UInt8} {a q n : Nat} (h1 : a < l.length) (hl : lget l ((a : Int) + 1) = (n, (q : Int), 0)) (hn : n ≤ 1048576) (hs : q + n + 4 ≤ l.length) (ht : Crc.tail ((l.drop a).take (q + n - a)) ≠ (l.drop (q + n)).take 4) : fget l a = ((0, []), (a : Int), 6) := by
  unfold fget; rw [if_neg (by omega), if_neg (by omega), hl, if_neg (by simp), if_neg (by omega), if_neg (by simp only; omega), if_pos (by simpa using ht)]
theorem fget_ok {l : List UInt8} {a q n : Nat} (h1 : a < l.length) (hl : lget l ((a : Int) + 1) = (n, (q : Int), 0)) (hn : n ≤ 1048576) (hs : q + n + 4 ≤ l.length) (ht : Crc.tail ((l.drop a).take (q + n - a)) = (l.drop (q + n)).take 4) :
    fget l a = ((((l.getD a 0).toNat : Int), (l.drop q).take n), (q : Int) + n + 4, 0) := by
  unfold fget; rw [if_neg (by omega), if_neg (by omega), hl, if_neg (by simp), if_neg (by omega), if_neg (by simp only; omega), if_neg (by simpa using ht)]; simp

theorem z2_new (w : World) : Blk (w.alloc (.cells #[.int .i64 0, .string ⟨#[]⟩] 23)) w.heap.size 23 #[.int .i64 0, .string ⟨#[]⟩] := Blk.new w _ _
theorem getD_at (s : ByteArray) (a : Nat) (h : a < s.size) : s.data.toList.getD a 0 = s[a] := by
  have h' : a < s.data.toList.length := by rw [len_of]; exact h
  rw [List.getD_eq_getElem?_getD, List.getElem?_eq_getElem h']
  rfl

set_option maxRecDepth 100000 in
set_option maxHeartbeats 1000000 in
theorem ref_Get_few (s : ByteArray) (a : Int) (ha : a < 0 ∨ (s.size : Int) ≤ a) (w : World) :
    Calls Try.prog 15 #[.string s, .int .i64 a] w (FGetEnds s a w) := by
  by_cases h0 : a < 0
  · have HE := Lib.hid (fget_arg (l := s.data.toList) (.inl h0))
    go_enter Try.func15, Try.ntmps15
    go_wp2_with fail
    refine bodyPost_ret (v := .tuple #[.agg #[.int .i64 0, .string ⟨#[]⟩], .int .i64 a, .int .i64 1]) (by simp [results, Try.results15, go_sem]) rfl ?_
    exact FGetEnds.mk HE.out rfl ((Below.refl _ _).alloc (Nat.le_refl _) _)
  · by_cases h1 : (s.size : Int) < a
    · have HE := Lib.hid (fget_arg (l := s.data.toList) (a := a) (.inr (by rw [len_of]; exact h1)))
      have h2 : 0 ≤ a := by omega
      go_enter Try.func15, Try.ntmps15
      go_wp2_with fail
      refine bodyPost_ret (v := .tuple #[.agg #[.int .i64 0, .string ⟨#[]⟩], .int .i64 a, .int .i64 1]) (by simp [results, Try.results15, go_sem]) rfl ?_
      exact FGetEnds.mk HE.out rfl ((Below.refl _ _).alloc (Nat.le_refl _) _)
    · obtain rfl : a = (s.size : Int) := by omega
      have HE := Lib.hid (show fget s.data.toList (s.size : Int) = ((0, []), (s.size : Int), 2) by have := fget_end (l := s.data.toList); rw [len_of] at this; exact this)
      go_enter Try.func15, Try.ntmps15
      go_wp2_with fail
      refine bodyPost_ret (v := .tuple #[.agg #[.int .i64 0, .string ⟨#[]⟩], .int .i64 s.size, .int .i64 2]) (by simp [results, Try.results15, go_sem]) rfl ?_
      exact FGetEnds.mk HE.out rfl ((Below.refl _ _).alloc (Nat.le_refl _) _)

set_option maxRecDepth 100000 in
set_option maxHeartbeats 1000000 in
theorem ref_Get_err (s : ByteArray) (a : Nat) (hs : s.size ≤ 1073741824) (ha : a < s.size) (n : Nat) (b c : Int) (hl : lget s.data.toList ((a : Int) + 1) = (n, b, c)) (w : World)
    (hbad : c ≠ 0 ∨ 1048576 < n ∨ (s.size : Int) - b < n + 4) :
    Calls Try.prog 15 #[.string s, .int .i64 a] w (FGetEnds s a w) := by
  have i0 : (0 : Int) ≤ (a : Int) := by omega
  have i1 : (a : Int) < (s.size : Int) := by omega
  have l1 : (a : Int) < s.data.toList.length := by rw [len_of]; exact i1
  have hw : IntKind.i64.wrap ((a : Int) + 1) = (a : Int) + 1 := IntWalk.i64_in _ (by omega)
  have bZ := z2_new w
  have hB0 : Below w.heap.size w (w.alloc (.cells #[.int .i64 0, .string ⟨#[]⟩] 23)) := (Below.refl _ _).alloc (Nat.le_refl _) _
  have HG := Lib.hid (fun W => ref_get_any s ((a : Int) + 1) hs W)
  by_cases hc : c ≠ 0
  · have HE := Lib.hid (fget_num i0 l1 hl hc)
    have e0 : (c == 0) = false := by simpa using hc
    have e1 : (c != 0) = true := by simpa using hc
    clear hc
    have HL := Lib.hid hl
    clear hl hbad
    go_enter Try.func15, Try.ntmps15
    go_wp2_with fail
    refine (HG.out _).mono ?_
    intro e w1 hq
    obtain ⟨rfl, hb1⟩ := hq.to HL.out
    have bZ1 := bZ.below hb1 bZ.lt
    have hB1 := hB0.trans (hb1.mono hB0.size)
    obtain ⟨z0, z1⟩ := bZ1.two
    have zf := bZ1.frozen
    clear hq hb1 HG
    go_wp2_with fail
    refine bodyPost_ret (v := .tuple #[.agg #[.int .i64 0, .string ⟨#[]⟩], .int .i64 a, .int .i64 c]) (by simp [results, Try.results15, go_sem, z0, z1]) rfl ?_
    exact FGetEnds.mk HE.out rfl ((hB1.setCell (p := ⟨w.heap.size, 0, none⟩) (Nat.le_refl _) _).setCell (p := ⟨w.heap.size, 1, none⟩) (Nat.le_refl _) _)
  · obtain rfl : c = 0 := by simpa using hc
    clear hc
    obtain ⟨g1, g2, g3, -⟩ := lget_only s.data.toList ((a : Int) + 1) (by rw [hl])
    rw [hl, len_of] at g3
    rw [hl] at g2
    simp only at g2 g3
    by_cases hn : 1048576 < n
    · have HE := Lib.hid (fget_large i0 l1 hl hn)
      have hn2 : (1048576 : Int) < (n : Int) := by omega
      have HL := Lib.hid hl
      clear hl hbad
      go_enter Try.func15, Try.ntmps15
      go_wp2_with fail
      refine (HG.out _).mono ?_
      intro e w1 hq
      obtain ⟨rfl, hb1⟩ := hq.to HL.out
      have bZ1 := bZ.below hb1 bZ.lt
      have hB1 := hB0.trans (hb1.mono hB0.size)
      obtain ⟨z0, z1⟩ := bZ1.two
      have zf := bZ1.frozen
      clear hq hb1 HG
      go_wp2_with fail
      refine bodyPost_ret (v := .tuple #[.agg #[.int .i64 0, .string ⟨#[]⟩], .int .i64 a, .int .i64 4]) (by simp [results, Try.results15, go_sem, z0, z1]) rfl ?_
      exact FGetEnds.mk HE.out rfl ((hB1.setCell (p := ⟨w.heap.size, 0, none⟩) (Nat.le_refl _) _).setCell (p := ⟨w.heap.size, 1, none⟩) (Nat.le_refl _) _)
    · have HE := Lib.hid (fget_short i0 l1 hl (by omega) (by rw [len_of]; omega))
      have hsh : (s.size : Int) - b < (n : Int) + 4 := by omega
      have hwn : IntKind.i64.wrap (n : Int) = (n : Int) := IntWalk.i64_in _ (by omega)
      have hn2 : (n : Int) ≤ 1048576 := by omega
      have HL := Lib.hid hl
      clear hl hbad
      go_enter Try.func15, Try.ntmps15
      go_wp2_with fail
      refine (HG.out _).mono ?_
      intro e w1 hq
      obtain ⟨rfl, hb1⟩ := hq.to HL.out
      have bZ1 := bZ.below hb1 bZ.lt
      have hB1 := hB0.trans (hb1.mono hB0.size)
      obtain ⟨z0, z1⟩ := bZ1.two
      have zf := bZ1.frozen
      clear hq hb1 HG
      go_wp2_with fail
      refine bodyPost_ret (v := .tuple #[.agg #[.int .i64 0, .string ⟨#[]⟩], .int .i64 a, .int .i64 2]) (by simp [results, Try.results15, go_sem, z0, z1]) rfl ?_
      exact FGetEnds.mk HE.out rfl ((hB1.setCell (p := ⟨w.heap.size, 0, none⟩) (Nat.le_refl _) _).setCell (p := ⟨w.heap.size, 1, none⟩) (Nat.le_refl _) _)

set_option maxRecDepth 100000 in
set_option maxHeartbeats 2000000 in
theorem ref_Get_all (s : ByteArray) (a : Nat) (hs : s.size ≤ 1073741824) (ha : a < s.size) (n q : Nat) (hl : lget s.data.toList ((a : Int) + 1) = (n, (q : Int), 0)) (w : World) (hn : n ≤ 1048576) (hq : q + n + 4 ≤ s.size) :
    Calls Try.prog 15 #[.string s, .int .i64 a] w (FGetEnds s a w) := by
  have i0 : (0 : Int) ≤ (a : Int) := by omega
  have i1 : (a : Int) < (s.size : Int) := by omega
  have hw : IntKind.i64.wrap ((a : Int) + 1) = (a : Int) + 1 := IntWalk.i64_in _ (by omega)
  obtain ⟨g1, g2, g3, -⟩ := lget_only s.data.toList ((a : Int) + 1) (by rw [hl])
  rw [hl, len_of] at g3
  rw [hl] at g2
  simp only at g2 g3
  have bZ := z2_new w
  have hB0 : Below w.heap.size w (w.alloc (.cells #[.int .i64 0, .string ⟨#[]⟩] 23)) := (Below.refl _ _).alloc (Nat.le_refl _) _
  have HG := Lib.hid (fun W => ref_get_any s ((a : Int) + 1) hs W)
  have hwn : IntKind.i64.wrap (n : Int) = (n : Int) := IntWalk.i64_in _ (by omega)
  have hn2 : (n : Int) ≤ 1048576 := by omega
  have hlong : (n : Int) + 4 ≤ (s.size : Int) - (q : Int) := by omega
  have w1 : IntKind.i64.wrap ((q : Int) + (n : Int)) = (q : Int) + (n : Int) := IntWalk.i64_in _ (by omega)
  have w2 : IntKind.i64.wrap ((q : Int) + (n : Int) + 4) = (q : Int) + (n : Int) + 4 := IntWalk.i64_in _ (by omega)
  have b1 : (a : Int) ≤ (q : Int) + (n : Int) := by omega
  have b2 : (q : Int) + (n : Int) ≤ (s.size : Int) := by omega
  have b3 : (0 : Int) ≤ (q : Int) + (n : Int) := by omega
  have b4 : (q : Int) + (n : Int) ≤ (q : Int) + (n : Int) + 4 := by omega
  have b5 : (q : Int) + (n : Int) + 4 ≤ (s.size : Int) := by omega
  have b6 : (0 : Int) ≤ (q : Int) := by omega
  have b7 : (q : Int) ≤ (q : Int) + (n : Int) := by omega
  have e1 : ((q : Int) + (n : Int)).toNat = q + n := by omega
  have e2 : ((q : Int) + (n : Int) + 4).toNat = q + n + 4 := by omega
  have hx1 := extract_str s a (q + n)
  have hx2 := extract_str s (q + n) (q + n + 4)
  have hx3 := extract_str s q (q + n)
  rw [show q + n + 4 - (q + n) = 4 by omega] at hx2
  rw [show q + n - q = n by omega] at hx3
  have HT := Lib.hid (fun W => Crc.ref_Tail_any (s.extract a (q + n)) (by rw [ByteArray.size_extract]; omega) W)
  rw [hx1, str_list] at HT
  rw [← hx1] at HT
  have HX3 := Lib.hid hx3
  by_cases ht : Crc.tail ((s.data.toList.drop a).take (q + n - a)) = (s.data.toList.drop (q + n)).take 4
  · have HE := Lib.hid (fget_ok (by rw [len_of]; exact ha) hl hn (by rw [len_of]; exact hq) ht)
    rw [getD_at s a ha] at HE
    have hby := s[a].toNat_lt
    have hwb : IntKind.i64.wrap (s[a].toNat : Int) = (s[a].toNat : Int) := IntWalk.i64_in _ (by omega)
    have hwc := (IntWalk.i64_left _).symm.trans hwb
    rw [ht] at HT
    have hcmp : (⟨((s.data.toList.drop (q + n)).take 4).toArray⟩ : ByteArray) = s.extract (q + n) (q + n + 4) := hx2.symm
    rw [hcmp] at HT
    have HL := Lib.hid hl
    clear hl ht hx1 hx2 hx3 hcmp
    go_enter Try.func15, Try.ntmps15
    go_wp2_with fail
    refine (HG.out _).mono ?_
    intro e w1 hq
    obtain ⟨rfl, hb1⟩ := hq.to HL.out
    have bZ1 := bZ.below hb1 bZ.lt
    have hB1 := hB0.trans (hb1.mono hB0.size)
    obtain ⟨z0, z1⟩ := bZ1.two
    have zf := bZ1.frozen
    clear hq hb1 HG
    go_wp2_with fail
    go_region_held3 (fun _ => True) (trivial) (first | (go_at_call 22; (with_reducible refine (HT.out _).mono ?_); rintro e w2 ⟨rfl, hb2⟩))
    have bZ2 : Blk w2 w.heap.size _ _ := bZ1.drew.below hb2 bZ1.lt
    have hB2 := hB1.drew.trans (hb2.mono hB1.size)
    obtain ⟨y0, y1⟩ := bZ2.two
    have yf := bZ2.frozen
    clear z0 z1 zf
    go_wp2_with fail
    go_region
    all_goals go_wp2_with fail
    all_goals refine bodyPost_ret (v := .tuple #[.agg #[.int .i64 s[a].toNat, .string (s.extract q (q + n))], .int .i64 ((q : Int) + n + 4), .int .i64 0]) (by simp [results, Try.results15, go_sem, y0, y1]) rfl ?_
    all_goals refine FGetEnds.mk HE.out HX3.out ?_
    all_goals exact (((hB2.setCell (p := ⟨w.heap.size, 0, none⟩) (Nat.le_refl _) _).setCell (p := ⟨w.heap.size, 1, none⟩) (Nat.le_refl _) _)).drew
  · have HE := Lib.hid (fget_sum (by rw [len_of]; exact ha) hl hn (by rw [len_of]; exact hq) ht)
    have hne : (Crc.tail ((s.data.toList.drop a).take (q + n - a)) == (s.extract (q + n) (q + n + 4)).toList) = false := by
      rw [beq_eq_false_iff_ne, hx2, ByteArray.toList_eq, str_list]; exact ht
    obtain ⟨T, hT⟩ : ∃ T, Crc.tail ((s.data.toList.drop a).take (q + n - a)) = T := ⟨_, rfl⟩
    rw [hT] at HT hne
    have HL := Lib.hid hl
    clear hl ht hx1 hx2 hx3 hT
    go_enter Try.func15, Try.ntmps15
    go_wp2_with fail
    refine (HG.out _).mono ?_
    intro e w1 hq
    obtain ⟨rfl, hb1⟩ := hq.to HL.out
    have bZ1 := bZ.below hb1 bZ.lt
    have hB1 := hB0.trans (hb1.mono hB0.size)
    obtain ⟨z0, z1⟩ := bZ1.two
    have zf := bZ1.frozen
    clear hq hb1 HG
    go_wp2_with fail
    go_region_held3 (fun _ => True) (trivial) (first | (go_at_call 22; (with_reducible refine (HT.out _).mono ?_); rintro e w2 ⟨rfl, hb2⟩))
    have bZ2 : Blk w2 w.heap.size _ _ := bZ1.drew.below hb2 bZ1.lt
    have hB2 := hB1.drew.trans (hb2.mono hB1.size)
    obtain ⟨y0, y1⟩ := bZ2.two
    have yf := bZ2.frozen
    clear z0 z1 zf
    go_wp2_with fail
    refine bodyPost_ret (v := .tuple #[.agg #[.int .i64 0, .string ⟨#[]⟩], .int .i64 a, .int .i64 6]) (by simp [results, Try.results15, go_sem, y0, y1]) rfl ?_
    exact FGetEnds.mk HE.out rfl ((hB2.setCell (p := ⟨w.heap.size, 0, none⟩) (Nat.le_refl _) _).setCell (p := ⟨w.heap.size, 1, none⟩) (Nat.le_refl _) _)

/-- What stands at a place, the document's way. -/
theorem ref_Get_frame (s : ByteArray) (a : Int) (hs : s.size ≤ 1073741824) (w : World) : Calls Try.prog 15 #[.string s, .int .i64 a] w (FGetEnds s a w) := by
  by_cases h : a < 0 ∨ (s.size : Int) ≤ a
  · exact ref_Get_few s a h w
  · obtain ⟨k, rfl⟩ := Int.eq_ofNat_of_zero_le (show 0 ≤ a by omega)
    have hk : k < s.size := by omega
    obtain ⟨⟨n, b, c⟩, hl⟩ : ∃ t, lget s.data.toList ((k : Int) + 1) = t := ⟨_, rfl⟩
    by_cases hbad : c ≠ 0 ∨ 1048576 < n ∨ (s.size : Int) - b < n + 4
    · exact ref_Get_err s k hs hk n b c hl w hbad
    · obtain rfl : c = 0 := by omega
      obtain ⟨g1, g2, g3, -⟩ := lget_only s.data.toList ((k : Int) + 1) (by rw [hl])
      rw [hl] at g2
      simp only at g2
      obtain ⟨q, rfl⟩ := Int.eq_ofNat_of_zero_le (show 0 ≤ b by omega)
      exact ref_Get_all s k hs hk n q hl w (by omega) (by omega)

end Go.Proofs.Ythimplhfmamejaa.Frame
