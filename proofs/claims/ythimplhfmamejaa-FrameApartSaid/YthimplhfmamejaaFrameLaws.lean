/-
  The laws of layer 6, walked.
-/
import Derived.Test.YthimplhfmamejaaFrameGetA
import Derived.Test.YthimplhfmamejaaCrcTurn
import Derived.Deep.DrawnRows
namespace Go.Proofs.Ythimplhfmamejaa.Frame
open Go.RowKit Leb Mem

attribute [local go_sem ↓] Go.wp_at_zero Go.wp_at_succ

theorem ret_bool {p q : Bool} (h : p = q) : Ending.returned (.bool p) = .returned (.bool q) := by rw [h]

theorem lput_0 : lput 0 = [0] := by rw [lput_lo (by omega)]; rfl
theorem head_1 : head 1 [] = [1, 0] := by unfold head; rw [show ([] : List UInt8).length = 0 from rfl, lput_0]; rfl
theorem tail_10 : Crc.tail [1, 0] = [190, 35, 194, 88] := by decide +kernel
theorem fput_1 : fput 1 [] = [1, 0, 190, 35, 194, 88] := by unfold fput; rw [head_1, List.append_nil, tail_10]; rfl
theorem put_1 : fPut 1 [] = ([1, 0, 190, 35, 194, 88], 0) := by unfold fPut; rw [if_neg (by decide), if_neg (by decide), fput_1]
theorem put_256 : fPut 256 [] = ([], 1) := by unfold fPut; rw [if_pos (by decide)]
theorem get_1 : fget [63, 1, 0, 190, 35, 194, 88] 1 = ((1, []), 7, 0) := by
  have := fget_back [63] [] [] 1 (by decide) (by decide) (by decide)
  rw [fput_1] at this
  exact this
theorem get_2 : fget [1, 0, 97, 98, 99, 100] 0 = ((0, []), 0, 6) := by
  have := fget_at [] [] [] [97, 98, 99, 100] 1 (by decide) (by decide) (by decide) [] rfl rfl
  rw [head_1, show ([1, 0] ++ ([] : List UInt8)) = [1, 0] from rfl, tail_10, if_neg (by decide)] at this
  exact this

theorem cut_2 : ((⟨#[1, 0, 190, 35, 194, 88]⟩ : ByteArray).extract 0 2).toList = [1, 0] := by rw [ByteArray.toList_eq]; rfl

def Z : ByteArray := ⟨#[]⟩
def Q1 : ByteArray := ⟨#[63, 1, 0, 190, 35, 194, 88]⟩
def Q2 : ByteArray := ⟨#[1, 0, 97, 98, 99, 100]⟩

set_option maxRecDepth 100000 in
set_option maxHeartbeats 1000000 in
theorem works_any (w : World) : Calls Try.prog 9 #[] w fun e w' => e = .returned (.bool true) ∧ Below w.heap.size w w' := by
  go_enter Try.func9, Try.ntmps9
  go_wp2_with fail
  refine (Put_any 1 Z (by decide) _).mono ?_
  intro e w1 hq
  obtain ⟨rfl, hb1⟩ := hq.to put_1
  rw [show str [1, 0, 190, 35, 194, 88] = ⟨#[1, 0, 190, 35, 194, 88]⟩ from rfl]
  clear hq
  go_wp2_with fail
  refine (Get_any Q1 1 (by decide) _).mono ?_
  intro e w2 hq
  obtain ⟨rfl, hb2⟩ := hq.to get_1
  rw [show str [] = ⟨#[]⟩ from rfl]
  have hB2 := below2 hb1 hb2
  clear hq hb1 hb2
  have bX := Blk.new w2 23 #[.int .i64 1, .string ⟨#[]⟩]
  have hB2' := hB2.alloc hB2.size (.cells #[.int .i64 1, .string ⟨#[]⟩] 23)
  go_wp2_with fail
  refine (Get_any Q2 0 (by decide) _).mono ?_
  intro e w3 hq
  obtain ⟨rfl, hb3⟩ := hq.to get_2
  rw [show str [] = ⟨#[]⟩ from rfl]
  have bX3 := bX.below hb3 bX.lt
  have hB3 := hB2'.trans (hb3.mono hB2'.size)
  have hB3' := hB3.alloc hB3.size (.cells #[.int .i64 0, .string ⟨#[]⟩] 23)
  have bX3' := bX3.alloc (.cells #[.int .i64 0, .string ⟨#[]⟩] 23)
  clear hq hb3 bX bX3 hB2 hB2' hB3
  go_wp2_with fail
  refine (Put_any 256 Z (by decide) _).mono ?_
  intro e w4 hq
  obtain ⟨rfl, hb4⟩ := hq.to put_256
  rw [show str [] = ⟨#[]⟩ from rfl]
  have bX4 := bX3'.below hb4 bX3'.lt
  have hB4 := hB3'.trans (hb4.mono hB3'.size)
  obtain ⟨c0, c1⟩ := bX4.two
  have hcut := cut_2
  clear hq hb4 bX3' hB3'
  go_wp2_with fail
  refine (Head_any 1 Z (by decide) _).mono ?_
  rintro e w5 ⟨rfl, hb5⟩
  rw [show str (head 1 Z.data.toList) = ⟨#[1, 0]⟩ by show str (head 1 []) = _; rw [head_1]; rfl]
  go_wp2_with fail
  go_ret
  exact ⟨rfl, hB4.trans (hb5.mono hB4.size)⟩

set_option maxRecDepth 100000 in
set_option maxHeartbeats 1000000 in
theorem frameGets_walk (s : ByteArray) (_hs : s.size ≤ maxLen) (a : Int) (_ha : (Lit.int .i64 a).wf = true) (w : World) :
    Calls Try.prog 4 #[.string s, .int .i64 a] w fun e w' => e = .returned (.bool true) ∧ Below w.heap.size w w' := by
  by_cases hs : 1000 < s.size
  · go_enter Try.func4, Try.ntmps4
    go_wp2_with (go_at_call 9; refine (works_any _).mono ?_; rintro e w1 ⟨rfl, hb1⟩)
    go_ret
    exact ⟨rfl, hb1⟩
  · obtain ⟨⟨⟨t, d⟩, b, c⟩, hl⟩ : ∃ r, fget s.data.toList a = r := ⟨_, rfl⟩
    have HL := Lib.hid hl
    clear hl
    go_enter Try.func4, Try.ntmps4
    go_wp2_with (go_at_call 9; refine (works_any _).mono ?_; rintro e w1 ⟨rfl, hb1⟩)
    refine (Get_any s a (by omega) _).mono ?_
    intro e w2 hq
    obtain ⟨rfl, hb2⟩ := hq.to HL.out
    have hB2 := below2 hb1 hb2
    have bX := Blk.new w2 23 #[.int .i64 t, .string (str d)]
    have hB2' := hB2.alloc hB2.size (.cells #[.int .i64 t, .string (str d)] 23)
    clear hq hb1 hb2 hB2
    go_wp2_with fail
    refine (ref_Get_frame s a (by omega) _).mono ?_
    intro e w3 hq
    obtain ⟨rfl, hb3⟩ := hq.to HL.out
    have bX3 := bX.below hb3 bX.lt
    obtain ⟨c0, c1⟩ := bX3.two
    have hB3 := hB2'.trans (hb3.mono hB2'.size)
    have hlt := bX3.lt
    have hne := Nat.ne_of_lt hlt
    have hne2 := Nat.ne_of_gt hlt
    clear hq hb3 bX hB2'
    go_wp2_with fail
    go_ret
    exact ⟨rfl, hB3.alloc hB3.size _⟩

set_option maxRecDepth 100000 in
set_option maxHeartbeats 1000000 in
theorem framePuts_walk (t : Int) (d : ByteArray) (w : World) :
    Calls Try.prog 3 #[.agg #[.int .i64 t, .string d]] w fun e w' => e = .returned (.bool true) ∧ Below w.heap.size w w' := by
  have bP := Blk.new w 23 #[.int .i64 t, .string d]
  have hB0 : Below w.heap.size w (w.alloc (.cells #[.int .i64 t, .string d] 23)) := (Below.refl _ _).alloc (Nat.le_refl _) _
  by_cases hs : 1000 < d.size
  · go_enter Try.func3, Try.ntmps3
    go_wp2_with fail
    refine (works_any _).mono ?_
    rintro e w1 ⟨rfl, hb1⟩
    obtain ⟨c0, c1⟩ := (bP.below hb1 bP.lt).two
    go_wp2_with fail
    go_ret
    exact ⟨rfl, hB0.trans (hb1.mono hB0.size)⟩
  · obtain ⟨⟨l, c⟩, hl⟩ : ∃ r, fPut t d.data.toList = r := ⟨_, rfl⟩
    have HL := Lib.hid hl
    clear hl
    have HH := Lib.hid (fun W => Head_any t d (by omega) W)
    have HR := Lib.hid (fun W => ref_Head_any t d (by omega) W)
    obtain ⟨h, hh⟩ : ∃ h, str (head t d.data.toList) = h := ⟨_, rfl⟩
    rw [hh] at HH HR
    clear hh
    go_enter Try.func3, Try.ntmps3
    go_wp2_with fail
    refine (works_any _).mono ?_
    rintro e w1 ⟨rfl, hb1⟩
    have bP1 := bP.below hb1 bP.lt
    have hB1 := hB0.trans (hb1.mono hB0.size)
    obtain ⟨c0, c1⟩ := bP1.two
    clear hb1 hB0 bP
    go_wp2_with fail
    refine (Put_any t d (by omega) _).mono ?_
    intro e w2 hq
    obtain ⟨rfl, hb2⟩ := hq.to HL.out
    have bP2 := bP1.below hb2 bP1.lt
    have hB2 := hB1.trans (hb2.mono hB1.size)
    clear c0 c1 hb2 hB1 bP1 hq
    obtain ⟨c0, c1⟩ := bP2.two
    go_wp2_with fail
    refine (ref_Put_frame t d (by omega) _).mono ?_
    intro e w3 hq
    obtain ⟨rfl, hb3⟩ := hq.to HL.out
    have bP3 := bP2.below hb3 bP2.lt
    have hB3 := hB2.trans (hb3.mono hB2.size)
    clear c0 c1 hb3 hB2 bP2 hq
    obtain ⟨c0, c1⟩ := bP3.two
    have hBd := hB3.drew
    have bPd : Blk w3.drew w.heap.size _ _ := bP3
    go_wp2_with fail
    go_region_held3 (fun w' => w'.cell? ⟨w.heap.size, 0, none⟩ = some (.int .i64 t) ∧ w'.cell? ⟨w.heap.size, 1, none⟩ = some (.string d)) (first | exact ⟨c0, c1⟩ | exact ⟨k0, k1⟩ | go_keep)
      (first | (go_at_call 12; (with_reducible refine (HH.out _).mono ?_); rintro e w4 ⟨rfl, hb4⟩; have bPd := bPd.below hb4 bPd.lt; obtain ⟨k0, k1⟩ := bPd.two; have hBd := hBd.trans (hb4.mono hBd.size)) | (go_at_call 13; (with_reducible refine (HR.out _).mono ?_); rintro e w4 ⟨rfl, hb4⟩; have bPd := bPd.below hb4 bPd.lt; obtain ⟨k0, k1⟩ := bPd.two; have hBd := hBd.trans (hb4.mono hBd.size)))
    all_goals go_wp2_with fail
    all_goals go_ret
    all_goals exact ⟨rfl, hBd⟩

set_option maxRecDepth 100000 in
set_option maxHeartbeats 1000000 in
theorem frameOnly_walk (s : ByteArray) (_hs : s.size ≤ maxLen) (a : Int) (_ha : (Lit.int .i64 a).wf = true) (w : World) :
    Calls Try.prog 6 #[.string s, .int .i64 a] w fun e w' => e = .returned (.bool true) ∧ Below w.heap.size w w' := by
  by_cases hs : 1000 < s.size
  · go_enter Try.func6, Try.ntmps6
    go_wp2_with (go_at_call 9; refine (works_any _).mono ?_; rintro e w1 ⟨rfl, hb1⟩)
    go_ret
    exact ⟨rfl, hb1⟩
  · by_cases he : (fget s.data.toList a).2.2 = 0
    · obtain ⟨g1, g2, g3, g4, g5, g6, g7⟩ := fget_only s.data.toList a he
      obtain ⟨⟨⟨t, d⟩, b, c⟩, hl⟩ : ∃ r, fget s.data.toList a = r := ⟨_, rfl⟩
      rw [hl] at he g2 g3 g4 g5 g6 g7
      simp only at he g2 g3 g4 g5 g6 g7
      subst he
      rw [len_of] at g3
      obtain ⟨k, rfl⟩ := Int.eq_ofNat_of_zero_le g1
      obtain ⟨q, rfl⟩ := Int.eq_ofNat_of_zero_le (show 0 ≤ b by omega)
      simp only [Int.toNat_natCast] at g7
      have HP := Lib.hid (show fPut t (str d).data.toList = ((s.data.toList.drop k).take (q - k), 0) by rw [str_list]; unfold fPut; rw [if_neg (by omega), if_neg (by omega), g7])
      have hx := extract_str s k q
      have hdl : d.length ≤ 1048576 := g6
      have hds : (str d).size ≤ 1048576 := by rw [str_size]; exact hdl
      have HX := Lib.hid hx
      have HL := Lib.hid hl
      have b1 : (k : Int) < (q : Int) := g2
      have b2 : (q : Int) ≤ (s.size : Int) := g3
      have b3 : (k : Int) ≤ (q : Int) := by omega
      have b4 : (0 : Int) ≤ (k : Int) := by omega
      have b5 : ¬ (q : Int) ≤ (k : Int) := by omega
      clear hl g7 hx g1 g2 g3
      go_enter Try.func6, Try.ntmps6
      go_wp2_with (go_at_call 9; refine (works_any _).mono ?_; rintro e w1 ⟨rfl, hb1⟩)
      refine (Get_any s k (by omega) _).mono ?_
      intro e w2 hq
      obtain ⟨rfl, hb2⟩ := hq.to HL.out
      have hB2 := below2 hb1 hb2
      have hB2' := hB2.alloc hB2.size (.cells #[.int .i64 t, .string (str d)] 23)
      clear hq hb1 hb2 hB2
      go_wp2_with fail
      refine (Put_any t (str d) (by omega) _).mono ?_
      intro e w3 hq
      obtain ⟨rfl, hb3⟩ := hq.to HP.out
      rw [← HX.out]
      go_wp2_with fail
      go_ret
      exact ⟨rfl, hB2'.trans (hb3.mono hB2'.size)⟩
    · obtain ⟨g1, g2⟩ := fget_err s.data.toList a he
      obtain ⟨⟨⟨t, d⟩, b, c⟩, hl⟩ : ∃ r, fget s.data.toList a = r := ⟨_, rfl⟩
      rw [hl] at he g1 g2
      simp only [Prod.mk.injEq] at he g1 g2
      obtain ⟨rfl, rfl⟩ := g1
      subst g2
      have e0 : (c == 0) = false := by simpa using he
      have e1 : (c != 0) = true := by simpa using he
      have HL := Lib.hid hl
      clear hl he
      go_enter Try.func6, Try.ntmps6
      go_wp2_with (go_at_call 9; refine (works_any _).mono ?_; rintro e w1 ⟨rfl, hb1⟩)
      refine (Get_any s b (by omega) _).mono ?_
      intro e w2 hq
      obtain ⟨rfl, hb2⟩ := hq.to HL.out
      rw [show str [] = ⟨#[]⟩ from rfl]
      have hB2 := below2 hb1 hb2
      clear hq hb1 hb2
      go_wp2_with fail
      go_ret
      exact ⟨rfl, hB2.alloc hB2.size _⟩

end Go.Proofs.Ythimplhfmamejaa.Frame
