/-
  The laws of layer 2, walked: each returns true.
-/
import Derived.Test.YtcdnmpnahbkphaaZigWalk
import Derived.Deep.DrawnRows
namespace Go.Proofs.Ytcdnmpnahbkphaa.Zig
open Go.RowKit Leb

attribute [local go_sem ↓] Go.wp_at_zero Go.wp_at_succ

theorem ret_bool {p q : Bool} (h : p = q) : Ending.returned (.bool p) = .returned (.bool q) := by rw [h]
theorem size_mk (l : List UInt8) : (ByteArray.mk l.toArray).size = l.length := by simp [ByteArray.size]
theorem below2 {w w1 w2 : World} (h1 : Below w.heap.size w w1) (h2 : Below w1.heap.size w1 w2) : Below w.heap.size w w2 := h1.trans (h2.mono h1.size)

theorem wf_u64_bounds {n : Int} (h : (Lit.int .u64 n).wf = true) : 0 ≤ n ∧ n ≤ 18446744073709551615 := by
  simp [Lit.wf, IntKind.min, IntKind.max, IntKind.signed, IntKind.bits] at h
  omega
theorem wf_i64_bounds {n : Int} (h : (Lit.int .i64 n).wf = true) : -9223372036854775808 ≤ n ∧ n ≤ 9223372036854775807 := by
  simp [Lit.wf, IntKind.min, IntKind.max, IntKind.signed, IntKind.bits] at h
  omega

/-- The bytes of a number with a sign. -/
def zput (n : Int) : List UInt8 := lput (zig n).toNat

theorem Put_any (n : Int) (h0 : -9223372036854775808 ≤ n) (h1 : n ≤ 9223372036854775807) (w : World) :
    Calls Try.prog 14 #[.int .i64 n] w fun e w' => e = .returned (.string ⟨(zput n).toArray⟩) ∧ Below w.heap.size w w' := by
  obtain ⟨z0, z1⟩ := zig_range h0 h1
  unfold zput
  go_enter Try.func14, Try.ntmps14
  go_wp2_with (first | (go_at_call 10; refine (Zig_any n h0 h1 _).mono ?_; rintro e w1 ⟨rfl, hb1⟩) | (go_at_call 20; refine (Leb.Put_any _ z0 z1 _).mono ?_; rintro e w2 ⟨rfl, hb2⟩))
  go_ret
  exact ⟨rfl, below2 hb1 hb2⟩

theorem ref_Put_any (n : Int) (h0 : -9223372036854775808 ≤ n) (h1 : n ≤ 9223372036854775807) (w : World) :
    Calls Try.prog 15 #[.int .i64 n] w fun e w' => e = .returned (.string ⟨(zput n).toArray⟩) ∧ Below w.heap.size w w' := by
  obtain ⟨z0, z1⟩ := zig_range h0 h1
  unfold zput
  go_enter Try.func15, Try.ntmps15
  go_wp2_with (first | (go_at_call 11; refine (ref_Zig_any n h0 h1 _).mono ?_; rintro e w1 ⟨rfl, rfl⟩) | (go_at_call 21; refine (ref_put_any _ z0 z1 _).mono ?_; rintro e w2 ⟨rfl, hb2⟩))
  go_ret
  exact ⟨rfl, hb2⟩

/-- What Get gives. -/
def ZGetEnds (s : ByteArray) (a : Int) (w : World) (e : Ending) (w' : World) : Prop :=
  e = .returned (.tuple #[.int .i64 (zag ((lget s.data.toList a).1 : Int)), .int .i64 (lget s.data.toList a).2.1, .int .i64 (lget s.data.toList a).2.2]) ∧ Below w.heap.size w w'

theorem ZGetEnds.mk {s : ByteArray} {a : Int} {w w' : World} {m : Int} {n : Nat} {b c : Int} (h : lget s.data.toList a = (n, b, c)) (hm : m = zag (n : Int)) (hb : Below w.heap.size w w') : ZGetEnds s a w (.returned (.tuple #[.int .i64 m, .int .i64 b, .int .i64 c])) w' :=
  ⟨by rw [h, hm], hb⟩

theorem ZGetEnds.to {s : ByteArray} {a : Int} {w w' : World} {e : Ending} {n : Nat} {b c : Int} (h : ZGetEnds s a w e w') (hl : lget s.data.toList a = (n, b, c)) : e = .returned (.tuple #[.int .i64 (zag (n : Int)), .int .i64 b, .int .i64 c]) ∧ Below w.heap.size w w' := by
  obtain ⟨h1, h2⟩ := h
  rw [hl] at h1
  exact ⟨h1, h2⟩

set_option maxRecDepth 100000 in
set_option maxHeartbeats 400000 in
theorem Get_any (s : ByteArray) (a : Int) (hs : s.size ≤ 1073741824) (w : World) : Calls Try.prog 16 #[.string s, .int .i64 a] w (ZGetEnds s a w) := by
  have hg := fun W => get_any s a hs W
  have hle := lget_fst_le s.data.toList a
  obtain ⟨⟨n, b, c⟩, hl⟩ : ∃ t, lget s.data.toList a = t := ⟨_, rfl⟩
  rw [hl] at hle
  simp only at hle
  have hn0 : (0 : Int) ≤ (n : Int) := by omega
  have hn1 : (n : Int) ≤ 18446744073709551615 := by omega
  by_cases he : c = 0
  · subst he
    have HL := Lib.hid hl
    have HG := Lib.hid hg
    clear hg hl hle
    go_enter Try.func16, Try.ntmps16
    go_wp2_with (first | (go_at_call 22; refine (HG.out _).mono ?_; intro e w1 hq; obtain ⟨rfl, hb1⟩ := hq.to HL.out; clear hq) | (go_at_call 12; refine (Zag_any _ hn0 hn1 _).mono ?_; rintro e w2 ⟨rfl, hb2⟩))
    go_ret3
    exact ZGetEnds.mk HL.out rfl (below2 hb1 hb2)
  · obtain ⟨h1, h2⟩ := lget_err s.data.toList a (by rw [hl]; exact he)
    rw [hl] at h1 h2
    simp only at h1 h2
    subst h1 h2
    have he' : (c == 0) = false := by simpa using he
    have he2 : (c != 0) = true := by simpa using he
    have HL := Lib.hid hl
    have HG := Lib.hid hg
    clear hg hl hle he
    go_enter Try.func16, Try.ntmps16
    go_wp2_with (go_at_call 22; refine (HG.out _).mono ?_; intro e w1 hq; obtain ⟨rfl, hb1⟩ := hq.to HL.out; clear hq)
    go_ret3
    exact ZGetEnds.mk HL.out rfl hb1

set_option maxRecDepth 100000 in
set_option maxHeartbeats 400000 in
theorem ref_Get_any (s : ByteArray) (a : Int) (hs : s.size ≤ 1073741824) (w : World) : Calls Try.prog 17 #[.string s, .int .i64 a] w (ZGetEnds s a w) := by
  have hg := fun W => ref_get_any s a hs W
  have hle := lget_fst_le s.data.toList a
  obtain ⟨⟨n, b, c⟩, hl⟩ : ∃ t, lget s.data.toList a = t := ⟨_, rfl⟩
  rw [hl] at hle
  simp only at hle
  have hn0 : (0 : Int) ≤ (n : Int) := by omega
  have hn1 : (n : Int) ≤ 18446744073709551615 := by omega
  by_cases he : c = 0
  · subst he
    have HL := Lib.hid hl
    have HG := Lib.hid hg
    clear hg hl hle
    go_enter Try.func17, Try.ntmps17
    go_wp2_with (first | (go_at_call 23; refine (HG.out _).mono ?_; intro e w1 hq; obtain ⟨rfl, hb1⟩ := hq.to HL.out; clear hq) | (go_at_call 13; refine (ref_Zag_any _ hn0 hn1 _).mono ?_; rintro e w2 ⟨rfl, rfl⟩))
    go_ret3
    exact ZGetEnds.mk HL.out rfl hb1
  · obtain ⟨h1, h2⟩ := lget_err s.data.toList a (by rw [hl]; exact he)
    rw [hl] at h1 h2
    simp only at h1 h2
    subst h1 h2
    have he' : (c == 0) = false := by simpa using he
    have he2 : (c != 0) = true := by simpa using he
    have HL := Lib.hid hl
    have HG := Lib.hid hg
    clear hg hl hle he
    go_enter Try.func17, Try.ntmps17
    go_wp2_with (go_at_call 23; refine (HG.out _).mono ?_; intro e w1 hq; obtain ⟨rfl, hb1⟩ := hq.to HL.out; clear hq)
    go_ret3
    exact ZGetEnds.mk HL.out rfl hb1

def S1 : ByteArray := ⟨#[3]⟩

theorem lput_3 : lput 3 = [3] := by rw [lput_lo (by omega)]; rfl
theorem get_1 : lget [3] 0 = (3, 1, 0) := by
  have := lget_back (n := 3) (by omega) [] []
  rw [lput_3] at this
  exact this
theorem zput_2 : zput (-2) = [3] := lput_3

theorem zig_n1 : zig (-1) = 1 := rfl
theorem zig_1 : zig 1 = 2 := rfl
theorem zig_n2 : zig (-2) = 3 := rfl
theorem zag_most : zag 18446744073709551615 = -9223372036854775808 := rfl
theorem zag_3 : zag ((3 : Nat) : Int) = -2 := rfl
theorem zig_0 : zig 0 = 0 := rfl

set_option maxRecDepth 100000 in
set_option maxHeartbeats 1000000 in
theorem works_any (w : World) : Calls Try.prog 9 #[] w fun e w' => e = .returned (.bool true) ∧ Below w.heap.size w w' := by
  go_enter Try.func9, Try.ntmps9
  go_wp2_with fail
  refine (Get_any S1 0 (by decide) _).mono ?_
  intro e w1 h
  obtain ⟨rfl, hb1⟩ := h.to get_1
  clear h
  rw [zag_3]
  go_wp2_with fail
  refine (Zig_any 0 (by omega) (by omega) _).mono ?_
  rintro e w2 ⟨rfl, hb2⟩
  rw [zig_0]
  go_wp2_with fail
  refine (Zig_any (-1) (by omega) (by omega) _).mono ?_
  rintro e w3 ⟨rfl, hb3⟩
  rw [zig_n1]
  go_wp2_with fail
  refine (Zig_any 1 (by omega) (by omega) _).mono ?_
  rintro e w4 ⟨rfl, hb4⟩
  rw [zig_1]
  go_wp2_with fail
  refine (Zig_any (-2) (by omega) (by omega) _).mono ?_
  rintro e w5 ⟨rfl, hb5⟩
  rw [zig_n2]
  go_wp2_with fail
  refine (Zag_any 18446744073709551615 (by omega) (by omega) _).mono ?_
  rintro e w6 ⟨rfl, hb6⟩
  rw [zag_most]
  go_wp2_with fail
  refine (Put_any (-2) (by omega) (by omega) _).mono ?_
  rintro e w7 ⟨rfl, hb7⟩
  rw [zput_2]
  go_wp2_with fail
  go_ret
  exact ⟨rfl, below2 (below2 (below2 (below2 (below2 (below2 hb1 hb2) hb3) hb4) hb5) hb6) hb7⟩

set_option maxRecDepth 100000 in
set_option maxHeartbeats 1000000 in
theorem zigzagTells_walk (n : Int) (hn : (Lit.int .i64 n).wf = true) (u : Int) (hu : (Lit.int .u64 u).wf = true) (w : World) :
    Calls Try.prog 3 #[.int .i64 n, .int .u64 u] w fun e w' => e = .returned (.bool true) ∧ Below w.heap.size w w' := by
  obtain ⟨n0, n1⟩ := wf_i64_bounds hn
  obtain ⟨u0, u1⟩ := wf_u64_bounds hu
  clear hn hu
  go_enter Try.func3, Try.ntmps3
  go_wp2_with (go_at_call 9; refine (works_any _).mono ?_; rintro e w1 ⟨rfl, hb1⟩)
  refine (Zig_any n n0 n1 _).mono ?_
  rintro e w2 ⟨rfl, hb2⟩
  go_wp2_with fail
  refine (ref_Zig_any n n0 n1 _).mono ?_
  rintro e w3 ⟨rfl, rfl⟩
  go_wp2_with fail
  refine (Zag_any u u0 u1 _).mono ?_
  rintro e w4 ⟨rfl, hb4⟩
  go_wp2_with fail
  refine (ref_Zag_any u u0 u1 _).mono ?_
  rintro e w5 ⟨rfl, rfl⟩
  go_wp2_with fail
  refine (Put_any n n0 n1 _).mono ?_
  rintro e w6 ⟨rfl, hb6⟩
  go_wp2_with fail
  refine (ref_Put_any n n0 n1 _).mono ?_
  rintro e w7 ⟨rfl, hb7⟩
  go_wp2_with fail
  go_ret
  exact ⟨rfl, below2 (below2 (below2 (below2 hb1 hb2) hb4) hb6) hb7⟩

set_option maxRecDepth 100000 in
set_option maxHeartbeats 1000000 in
theorem zigzagGets_walk (s : ByteArray) (_hs : s.size ≤ maxLen) (a : Int) (_ha : (Lit.int .i64 a).wf = true) (w : World) :
    Calls Try.prog 4 #[.string s, .int .i64 a] w fun e w' => e = .returned (.bool true) ∧ Below w.heap.size w w' := by
  by_cases hs : 2000 < s.size
  · go_enter Try.func4, Try.ntmps4
    go_wp2_with (go_at_call 9; refine (works_any _).mono ?_; rintro e w1 ⟨rfl, hb1⟩)
    go_ret
    exact ⟨rfl, hb1⟩
  · go_enter Try.func4, Try.ntmps4
    go_wp2_with (go_at_call 9; refine (works_any _).mono ?_; rintro e w1 ⟨rfl, hb1⟩)
    refine (Get_any s a (by omega) _).mono ?_
    rintro e w2 ⟨rfl, hb2⟩
    go_wp2_with fail
    refine (ref_Get_any s a (by omega) _).mono ?_
    rintro e w3 ⟨rfl, hb3⟩
    go_wp2_with fail
    go_ret
    exact ⟨rfl, below2 (below2 hb1 hb2) hb3⟩

set_option maxRecDepth 100000 in
set_option maxHeartbeats 1000000 in
theorem zigzagEach_walk (n : Int) (hn : (Lit.int .i64 n).wf = true) (u : Int) (hu : (Lit.int .u64 u).wf = true) (w : World) :
    Calls Try.prog 5 #[.int .i64 n, .int .u64 u] w fun e w' => e = .returned (.bool true) ∧ Below w.heap.size w w' := by
  obtain ⟨n0, n1⟩ := wf_i64_bounds hn
  obtain ⟨u0, u1⟩ := wf_u64_bounds hu
  clear hn hu
  obtain ⟨z0, z1⟩ := zig_range n0 n1
  obtain ⟨z2, z3⟩ := zag_range u0 u1
  have H1 := Lib.hid (zag_zig n)
  have H2 := Lib.hid (zig_zag u u0)
  have H3 := Lib.hid (zig_sign n)
  go_enter Try.func5, Try.ntmps5
  go_wp2_with (go_at_call 9; refine (works_any _).mono ?_; rintro e w1 ⟨rfl, hb1⟩)
  refine (Zig_any n n0 n1 _).mono ?_
  rintro e w2 ⟨rfl, hb2⟩
  go_wp2_with fail
  refine (Zag_any (zig n) z0 z1 _).mono ?_
  rintro e w3 ⟨rfl, hb3⟩
  rw [H1.out]
  go_wp2_with fail
  refine (Zag_any u u0 u1 _).mono ?_
  rintro e w4 ⟨rfl, hb4⟩
  go_wp2_with fail
  refine (Zig_any (zag u) z2 z3 _).mono ?_
  rintro e w5 ⟨rfl, hb5⟩
  rw [H2.out]
  go_wp2_with fail
  refine (Zig_any n n0 n1 _).mono ?_
  rintro e w6 ⟨rfl, hb6⟩
  go_wp2_with fail
  go_ret
  refine ⟨ret_bool ?_, below2 (below2 (below2 (below2 (below2 hb1 hb2) hb3) hb4) hb5) hb6⟩
  have h3 := H3.out
  by_cases hc : n < 0
  · rw [h3.2 hc, decide_eq_true hc]; rfl
  · have : (zig n % 2 == 1) = false := by rw [beq_eq_false_iff_ne]; exact fun h => hc (h3.1 h)
    rw [this, decide_eq_false hc]; rfl

set_option maxRecDepth 100000 in
set_option maxHeartbeats 1000000 in
theorem zigzagBack_walk (n : Int) (hn : (Lit.int .i64 n).wf = true) (x : ByteArray) (_hx : x.size ≤ maxLen) (y : ByteArray) (_hy : y.size ≤ maxLen) (w : World) :
    Calls Try.prog 6 #[.int .i64 n, .string x, .string y] w fun e w' => e = .returned (.bool true) ∧ Below w.heap.size w w' := by
  obtain ⟨h0, h1⟩ := wf_i64_bounds hn
  obtain ⟨z0, z1⟩ := zig_range h0 h1
  have hl : (zput n).length ≤ 10 := lput_len10 (n := (zig n).toNat) (by omega)
  by_cases hx : 2000 < x.size
  · go_enter Try.func6, Try.ntmps6
    go_wp2_with (go_at_call 9; refine (works_any _).mono ?_; rintro e w1 ⟨rfl, hb1⟩)
    go_ret
    exact ⟨rfl, hb1⟩
  · by_cases hy : 2000 < y.size
    · go_enter Try.func6, Try.ntmps6
      go_wp2_with (go_at_call 9; refine (works_any _).mono ?_; rintro e w1 ⟨rfl, hb1⟩)
      go_ret
      exact ⟨rfl, hb1⟩
    · go_enter Try.func6, Try.ntmps6
      go_wp2_with (go_at_call 9; refine (works_any _).mono ?_; rintro e w1 ⟨rfl, hb1⟩)
      refine (Put_any n h0 h1 _).mono ?_
      rintro e w2 ⟨rfl, hb2⟩
      go_wp2_with fail
      refine (Get_any _ _ (by rw [ByteArray.size_append, ByteArray.size_append, size_mk (zput n)]; omega) _).mono ?_
      intro e w3 h
      obtain ⟨rfl, hb3⟩ := h.to (n := (zig n).toNat) (b := (x.size : Int) + (zput n).length) (c := 0) (by
        rw [ByteArray.data_append, ByteArray.data_append, Array.toList_append, Array.toList_append]
        have := lget_back (n := (zig n).toNat) (by omega) x.data.toList y.data.toList
        rw [str_len] at this
        exact this)
      rw [Int.toNat_of_nonneg z0, zag_zig]
      go_wp2_with fail
      go_ret
      exact ⟨rfl, below2 (below2 hb1 hb2) hb3⟩

set_option maxRecDepth 100000 in
set_option maxHeartbeats 1000000 in
theorem zigzagOnly_walk (s : ByteArray) (_hs : s.size ≤ maxLen) (a : Int) (_ha : (Lit.int .i64 a).wf = true) (w : World) :
    Calls Try.prog 8 #[.string s, .int .i64 a] w fun e w' => e = .returned (.bool true) ∧ Below w.heap.size w w' := by
  by_cases hs : 2000 < s.size
  · go_enter Try.func8, Try.ntmps8
    go_wp2_with (go_at_call 9; refine (works_any _).mono ?_; rintro e w1 ⟨rfl, hb1⟩)
    go_ret
    exact ⟨rfl, hb1⟩
  · have hg := Get_any s a (by omega)
    have hle := lget_fst_le s.data.toList a
    by_cases he : (lget s.data.toList a).2.2 = 0
    · have h1 := lget_only s.data.toList a he
      unfold ZGetEnds at hg
      obtain ⟨⟨n, b, c⟩, hl⟩ : ∃ t, lget s.data.toList a = t := ⟨_, rfl⟩
      rw [hl] at h1 he hg hle
      simp only at h1 he hg hle
      subst he
      obtain ⟨h2, h3, h4, h5⟩ := h1
      rw [str_len] at h4
      obtain ⟨q0, q1⟩ := zag_range (u := (n : Int)) (by omega) (by omega)
      have e5 : zput (zag (n : Int)) = lput n := by unfold zput; rw [zig_zag _ (by omega), Int.toNat_natCast]
      rw [← e5] at h5
      obtain ⟨m, hm⟩ : ∃ m, zag (n : Int) = m := ⟨_, rfl⟩
      rw [hm] at h5 hg q0 q1
      have HG := Lib.hid hg
      have H5 := Lib.hid h5
      have HP := Lib.hid (fun W => Put_any m q0 q1 W)
      clear hg h5 hl e5 hm
      go_enter Try.func8, Try.ntmps8
      go_wp2_with (first | (go_at_call 9; refine (works_any _).mono ?_; rintro e w1 ⟨rfl, hb1⟩) | (go_at_call 16; refine (HG.out _).mono ?_; rintro e w2 ⟨rfl, hb2⟩))
      have b1 : decide (a < b) = true := by simpa using h3
      have b2 : decide (b ≤ (s.size : Int)) = true := by simpa using h4
      have b3 : a ≤ b := by omega
      have b4 : 0 ≤ b := by omega
      go_region_held3 (fun _ => True) (trivial) (first | (go_at_call 14; refine (HP.out _).mono ?_; rintro e w3 ⟨rfl, hb3⟩))
      go_wp2
      go_ret
      have s1 := hb1.size
      have s2 := hb2.size
      refine ⟨ret_bool ?_, ((hb1.trans (hb2.mono (by omega))).drew).trans (hb3.mono (by simp; omega))⟩
      rw [ByteArray.toList_eq, Lib.extract_data, H5.out]
      simp
    · obtain ⟨h1, h2⟩ := lget_err s.data.toList a he
      unfold ZGetEnds at hg
      obtain ⟨⟨n, b, c⟩, hl⟩ : ∃ t, lget s.data.toList a = t := ⟨_, rfl⟩
      rw [hl] at h1 h2 he hg
      simp only at h1 h2 he hg
      subst h1 h2
      rw [show zag ((0 : Nat) : Int) = 0 from rfl] at hg
      have he' : (c == 0) = false := by simpa using he
      have HG := Lib.hid hg
      clear hg hl he hle
      go_enter Try.func8, Try.ntmps8
      go_wp2_with (first | (go_at_call 9; refine (works_any _).mono ?_; rintro e w1 ⟨rfl, hb1⟩) | (go_at_call 16; refine (HG.out _).mono ?_; rintro e w2 ⟨rfl, hb2⟩))
      go_ret
      exact ⟨rfl, below2 hb1 hb2⟩

set_option maxRecDepth 100000 in
set_option maxHeartbeats 1000000 in
theorem zigzagNear_walk (n : Int) (hn : (Lit.int .i64 n).wf = true) (m : Int) (hm : (Lit.int .i64 m).wf = true) (w : World) :
    Calls Try.prog 7 #[.int .i64 n, .int .i64 m] w fun e w' => e = .returned (.bool true) ∧ Below w.heap.size w w' := by
  obtain ⟨n0, n1⟩ := wf_i64_bounds hn
  obtain ⟨m0, m1⟩ := wf_i64_bounds hm
  clear hn hm
  by_cases c1 : n < 0
  · go_enter Try.func7, Try.ntmps7
    go_wp2_with (go_at_call 9; refine (works_any _).mono ?_; rintro e w1 ⟨rfl, hb1⟩)
    go_ret
    exact ⟨rfl, hb1⟩
  · by_cases c2 : m < 0
    · go_enter Try.func7, Try.ntmps7
      go_wp2_with (go_at_call 9; refine (works_any _).mono ?_; rintro e w1 ⟨rfl, hb1⟩)
      go_ret
      exact ⟨rfl, hb1⟩
    · have e1 : zig n = 2 * n := zig_nonneg (by omega)
      have e2 : zig (-1 - m) = 2 * m + 1 := by rw [zig_neg (by omega)]; omega
      have hz1 : ∀ W, Calls Try.prog 10 #[.int .i64 n] W fun e w' => e = .returned (.int .u64 (2 * n)) ∧ Below W.heap.size W w' := fun W => by have := Zig_any n n0 n1 W; rw [e1] at this; exact this
      have hz2 : ∀ W, Calls Try.prog 10 #[.int .i64 (-1 - m)] W fun e w' => e = .returned (.int .u64 (2 * m + 1)) ∧ Below W.heap.size W w' := fun W => by have := Zig_any (-1 - m) (by omega) (by omega) W; rw [e2] at this; exact this
      have H1 := Lib.hid hz1
      have H2 := Lib.hid hz2
      clear hz1 hz2 e1 e2
      by_cases c3 : n ≤ m
      · have l1 := lput_len_mono (2 * n).toNat (2 * m + 1).toNat (by omega)
        have l2 := lput_len10 (n := (2 * m + 1).toNat) (by omega)
        have d1 : decide (2 * n < 2 * m + 1) = true := by simp; omega
        have d2 : decide (m < n) = false := by simp; omega
        have d3 : decide (n ≤ m) = true := by simp; omega
        go_enter Try.func7, Try.ntmps7
        go_wp2_with (go_at_call 9; refine (works_any _).mono ?_; rintro e w1 ⟨rfl, hb1⟩)
        refine (H1.out _).mono ?_
        rintro e w2 ⟨rfl, hb2⟩
        go_wp2_with fail
        refine (H2.out _).mono ?_
        rintro e w3 ⟨rfl, hb3⟩
        go_wp2_with fail
        refine (Size_any (2 * n) (by omega) (by omega) _).mono ?_
        rintro e w4 ⟨rfl, hb4⟩
        go_wp2_with fail
        refine (Size_any (2 * m + 1) (by omega) (by omega) _).mono ?_
        rintro e w5 ⟨rfl, hb5⟩
        go_wp2_with fail
        go_ret
        exact ⟨ret_bool (by simp), below2 (below2 (below2 (below2 hb1 hb2) hb3) hb4) hb5⟩
      · have d1 : decide (2 * n < 2 * m + 1) = false := by simp; omega
        have d2 : decide (m < n) = true := by simp; omega
        have d3 : decide (n ≤ m) = false := by simp; omega
        go_enter Try.func7, Try.ntmps7
        go_wp2_with (go_at_call 9; refine (works_any _).mono ?_; rintro e w1 ⟨rfl, hb1⟩)
        refine (H1.out _).mono ?_
        rintro e w2 ⟨rfl, hb2⟩
        go_wp2_with fail
        refine (H2.out _).mono ?_
        rintro e w3 ⟨rfl, hb3⟩
        go_wp2_with fail
        go_ret
        exact ⟨rfl, below2 (below2 hb1 hb2) hb3⟩

end Go.Proofs.Ytcdnmpnahbkphaa.Zig
