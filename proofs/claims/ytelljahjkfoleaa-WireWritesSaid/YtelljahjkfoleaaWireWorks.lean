/-
  The document's examples for layer 5.
-/
import Derived.Test.YtelljahjkfoleaaWireItems
import Derived.Test.YtelljahjkfoleaaWireReads
import Derived.Deep.RegionHeld3
namespace Go.Proofs.Ytelljahjkfoleaa.Wire
open Go.RowKit Leb Mem

theorem lput300 : lput 300 = [172, 2] := by rw [lput_hi (by omega), lput_lo (by omega)]; rfl
theorem lput2 : lput 2 = [2] := by rw [lput_lo (by omega)]; rfl

def S1 : ByteArray := ⟨#[172, 2, 2, 97, 98]⟩
def S2 : ByteArray := ⟨#[2, 97, 98]⟩
def S3 : ByteArray := ⟨#[120]⟩
def Sab : ByteArray := ⟨#[97, 98]⟩

theorem get_r : lget S1.data.toList 0 = (300, 2, 0) := by
  have := lget_back (n := 300) (by omega) [] [2, 97, 98]
  rw [lput300] at this
  exact this
theorem get_r2 : lget S1.data.toList 2 = (2, 3, 0) := by
  have := lget_back (n := 2) (by omega) [172, 2] [97, 98]
  rw [lput2] at this
  exact this
theorem get_q : lget S2.data.toList 0 = (2, 1, 0) := by
  have := lget_back (n := 2) (by omega) [] [97, 98]
  rw [lput2] at this
  exact this
theorem text_r : ltext S1.data.toList 2 2 = ([97, 98], 5, 0) := by
  have h : lcount S1.data.toList 2 2 = (2, 3, 0) := by rw [lcount_ok (by rw [get_r2]) (by omega) (by rw [get_r2]; decide), get_r2]
  unfold ltext
  rw [h]
  rfl
theorem text_q : ltext S2.data.toList 0 1 = ([], 0, 4) := by
  have h : lcount S2.data.toList 0 1 = (0, 0, 4) := by rw [lcount_large (by rw [get_q]) (.inr (by rw [get_q]; decide))]
  unfold ltext
  rw [h]
  rfl
theorem written : [] ++ lput (300 : Int).toNat ++ tput Sab.data.toList = S1.data.toList := by
  show [] ++ lput 300 ++ (lput 2 ++ [97, 98]) = _
  rw [lput300, lput2]
  rfl

set_option maxRecDepth 100000 in
set_option maxHeartbeats 1000000 in
theorem works_any (w : World) : Calls Try.prog 8 #[] w fun e w' => e = .returned (.bool true) ∧ Below w.heap.size w w' := by
  have s1 : S1.size = 5 := rfl
  have s2 : S2.size = 3 := rfl
  have s3 : S3.size = 1 := rfl
  have sab : Sab.size = 2 := rfl
  have T1 := Lib.hid s1
  have T2 := Lib.hid s2
  have T3 := Lib.hid s3
  have Tab := Lib.hid sab
  clear s1 s2 s3 sab
  go_enter Try.func8, Try.ntmps8
  go_wp2_with fail
  refine (New_any _).mono ?_
  rintro e w1 ⟨rfl, hW1, hb1⟩
  have ha1 := hW1.lt
  go_wp2_with fail
  refine (WNum_any _ _ _ 300 (by omega) (by omega) _ hW1 (by simp)).mono ?_
  intro e w2 hq
  obtain ⟨rfl, hk2, R2, hW2, hr2⟩ := hq
  have hb2 : Below w.heap.size w w2 := Kept.fresh hb1 hk2 hb1.size (by rintro k (rfl | h); exact Nat.le_refl _; cases h)
  go_wp2_with fail
  refine (WText_any _ _ _ Sab _ hW2 (by rw [Tab.out, List.nil_append, show lput (300 : Int).toNat = [172, 2] from lput300]; decide)).mono ?_
  intro e w3 hq
  obtain ⟨rfl, hk3, R3, hW3, hr3⟩ := hq
  rw [written] at hW3
  have hb3 : Below w.heap.size w w3 := Kept.fresh hb2 hk3 hb2.size (by
    rintro k (rfl | h)
    · exact Nat.le_refl _
    · rcases hr2 k h with q | q
      · cases q
      · exact Nat.le_trans hb1.size q)
  go_wp2_with fail
  refine (Bytes_any _ _ _ _ hW3).mono ?_
  rintro e w4 ⟨rfl, rfl⟩
  rw [show (⟨S1.data.toList.toArray⟩ : ByteArray) = ⟨#[172, 2, 2, 97, 98]⟩ from rfl]
  clear hW1 hW2 hW3 hk2 hk3 hr2 hr3
  go_wp2_with fail
  refine (Of_any S1 _).mono ?_
  rintro e w5 ⟨rfl, hR5, hb5⟩
  obtain ⟨r, hr⟩ : ∃ r, w3.heap.size = r := ⟨_, rfl⟩
  have hb5' := hb3.trans (hb5.mono hb3.size)
  have hr0 : w.heap.size ≤ r := by rw [← hr]; exact hb3.size
  rw [hr] at hR5 ⊢
  clear hb5 hr hb3
  go_wp2_with fail
  refine (Of_any S2 _).mono ?_
  rintro e w6 ⟨rfl, hQ6, hb6⟩
  obtain ⟨q, hq⟩ : ∃ q, w5.heap.size = q := ⟨_, rfl⟩
  have hb6' := hb5'.trans (hb6.mono hb5'.size)
  have hR6 : Rd w6 r S1 0 0 := Blk.below hR5 hb6 hR5.lt
  have hrq : r < q := by rw [← hq]; exact hR5.lt
  rw [hq] at hQ6 ⊢
  clear hb6 hq hR5 hb5'
  go_wp2_with fail
  refine (RNum_any r S1 0 0 _ (by rw [T1.out]; decide) hR6).mono ?_
  intro e w7 hh
  rw [show ((0 : Nat) : Int) = 0 from rfl, get_r] at hh
  obtain ⟨rfl, hR7, hk7⟩ := hh.good
  have hQ7 : Rd w7 q S2 0 0 := Blk.kept hQ6 hk7 (by omega)
  have hb7 : Below w.heap.size w w7 := Kept.fresh hb6' hk7 hb6'.size (by rintro k rfl; exact hr0)
  clear hh hk7 hQ6 hR6 hb6'
  go_wp2_with fail
  refine (RText_any r S1 2 0 2 _ (by rw [T1.out]; decide) (by omega) hR7).mono ?_
  intro e w8 hh
  rw [show ((2 : Nat) : Int) = 2 from rfl, text_r] at hh
  obtain ⟨rfl, hR8, hk8⟩ := hh.good
  have hQ8 : Rd w8 q S2 0 0 := Blk.kept hQ7 hk8 (by omega)
  have hb8 : Below w.heap.size w w8 := Kept.fresh hb7 hk8 hb7.size (by rintro k rfl; exact hr0)
  rw [show strB [97, 98] = ⟨#[97, 98]⟩ from rfl]
  clear hh hk8 hQ7 hR7 hb7
  go_wp2_with fail
  refine (RText_any q S2 0 0 1 _ (by rw [T2.out]; decide) (by omega) hQ8).mono ?_
  intro e w9 hh
  rw [show ((0 : Nat) : Int) = 0 from rfl, text_q] at hh
  obtain ⟨rfl, hQ9, hk9⟩ := hh.bad (by decide)
  have hR9 : Rd w9 r S1 5 0 := Blk.kept hR8 hk9 (by omega)
  have hb9 : Below w.heap.size w w9 := Kept.fresh hb8 hk9 hb8.size (by rintro k rfl; omega)
  clear hh hk9 hQ8 hR8 hb8
  obtain ⟨c0, c1, c2⟩ := hR9.three
  obtain ⟨d0, d1, d2⟩ := hQ9.three
  go_wp2_with fail
  refine (At_any S1 5 _).mono ?_
  rintro e w10 ⟨rfl, hb10⟩
  have hR10 : Rd w10 r S1 5 0 := Blk.below hR9 hb10 hR9.lt
  have hQ10 : Rd w10 q S2 0 4 := Blk.below hQ9 hb10 hQ9.lt
  have hb10' := hb9.trans (hb10.mono hb9.size)
  clear c0 c1 c2 d0 d1 d2 hb10 hR9 hQ9 hb9
  go_wp2_with fail
  refine (End_any r S1 5 0 _ (by rw [T1.out]; decide) (by rw [T1.out]; omega) hR10).mono ?_
  rintro e w11 ⟨rfl, hb11⟩
  have hQ11 : Rd w11 q S2 0 4 := Blk.below hQ10 hb11 hQ10.lt
  have hb11' := hb10'.trans (hb11.mono hb10'.size)
  obtain ⟨d0, d1, d2⟩ := hQ11.three
  rw [show endOf S1 ((5 : Nat) : Int) 0 = 0 from rfl]
  clear hb11 hb10' hR10 hQ10
  go_wp2_with fail
  refine (At_any S2 0 _).mono ?_
  rintro e w12 ⟨rfl, hb12⟩
  have hQ12 : Rd w12 q S2 0 4 := Blk.below hQ11 hb12 hQ11.lt
  have hb12' := hb11'.trans (hb12.mono hb11'.size)
  clear d0 d1 d2 hb12 hQ11 hb11'
  go_wp2_with fail
  refine (End_any q S2 0 4 _ (by rw [T2.out]; decide) (by rw [T2.out]; omega) hQ12).mono ?_
  rintro e w13 ⟨rfl, hb13⟩
  have hb13' := hb12'.trans (hb13.mono hb12'.size)
  rw [show endOf S2 ((0 : Nat) : Int) 4 = 4 from rfl]
  clear hb13 hQ12 hb12'
  go_wp2_with fail
  refine (Of_any S3 _).mono ?_
  rintro e w14 ⟨rfl, hZ14, hb14⟩
  have hb14' := hb13'.trans (hb14.mono hb13'.size)
  clear hb14 hb13'
  go_wp2_with fail
  refine (End_any _ S3 0 0 _ (by rw [T3.out]; decide) (by rw [T3.out]; omega) hZ14).mono ?_
  rintro e w15 ⟨rfl, hb15⟩
  have hb15' := hb14'.trans (hb15.mono hb14'.size)
  rw [show endOf S3 ((0 : Nat) : Int) 0 = 5 from rfl]
  clear hb15 hb14' hZ14
  go_wp2_with fail
  go_ret
  exact ⟨rfl, hb15'⟩

end Go.Proofs.Ytelljahjkfoleaa.Wire
