/-
  The laws of layer 11, walked on what the package's functions come to: the document's example.
-/
import Derived.Test.YtjjdpjdmeeholaaPathPkg
namespace Go.Proofs.Ytjjdpjdmeeholaa.Path
open Go.RowKit Mem _root_.Go.Proofs.Ytjjdpjdmeeholaa.Arena
set_option linter.unusedVariables false
attribute [local go_sem ↓] Go.wp_at_zero Go.wp_at_succ

/-- The document's example: Add, Int 1, Neg, Int 2. -/
def E4 : List Nd := [(7, 0), (1, 1), (5, 0), (1, 2)]
theorem sc0 : scan 1 (E4.drop 0) = some 4 := by simp [E4, scan_cons, scan_0, ar, asks]
theorem sc1 : scan 1 (E4.drop 1) = some 1 := by simp [E4, scan_cons, scan_0, ar]
theorem sc2 : scan 1 (E4.drop 2) = some 2 := by simp [E4, scan_cons, scan_0, ar, asks]
theorem en0 : aend E4 0 = 4 := aend_some (a := 0) sc0
theorem en1 : aend E4 1 = 2 := aend_some (a := 1) sc1
theorem en2 : aend E4 2 = 4 := aend_some (a := 2) sc2
theorem ki0 : akids E4 0 = [1, 2] := by
  unfold akids
  rw [if_neg (by rw [en0]; omega), show (ar (E4.getD (0 : Int).toNat (0, 0))).toNat = 2 from by simp [E4, ar, asks], kidsFrom, kidsFrom, kidsFrom, show (0 : Int) + 1 = 1 from rfl, en1]
theorem ki2 : akids E4 2 = [3] := by
  unfold akids
  rw [if_neg (by rw [en2]; omega), show (ar (E4.getD (2 : Int).toNat (0, 0))).toNat = 1 from by simp [E4, ar, asks], kidsFrom, kidsFrom]
  rfl
theorem whole4 : Whole E4 := en0
theorem down4 : down E4 [1, 0] 0 = 3 := by
  rw [show ([1, 0] : List Int) = ((1 : Nat) : Int) :: [((0 : Nat) : Int)] from rfl, down_go (q := 2) (by rw [ki0]; rfl), down_go (q := 3) (by rw [ki2]; rfl)]
  rfl
theorem leads4 : Leads E4 3 [1, 0] := ⟨whole4, by omega, down4⟩
theorem none4 : ¬ ∃ p, Leads E4 4 p := not_in (.inr (by decide))
theorem find4a : pfind E4 [1, 0] = 3 := by unfold pfind; rw [if_pos (show aend E4 0 = E4.length from whole4), down4]
theorem find4b : pfind E4 [] = 0 := by unfold pfind; rw [if_pos (show aend E4 0 = E4.length from whole4)]; rfl
theorem find4c : pfind E4 [2] = -1 := by unfold pfind; rw [if_pos (show aend E4 0 = E4.length from whole4), down_no (by rw [ki0]; simp)]
theorem row_nil (w : World) (B : Nat) : IRow w B none [] := fun i x h => by simp at h

set_option maxRecDepth 100000 in
set_option maxHeartbeats 4000000 in
theorem works_any (C : Pkg) (w : World) : Calls Try.prog 8 #[] w fun e w' => e = .returned (.bool true) ∧ Below w.heap.size w w' := by
  have hB1 : Below w.heap.size w (w.alloc (.cells #[.int .i64 7, .int .i64 0, .int .i64 1, .int .i64 1, .int .i64 5, .int .i64 0, .int .i64 1, .int .i64 2] 36)) := (Below.refl _ _).alloc (Nat.le_refl _) _
  have b1 := Blk.new w 36 #[.int .i64 7, .int .i64 0, .int .i64 1, .int .i64 1, .int .i64 5, .int .i64 0, .int .i64 1, .int .i64 2]
  obtain ⟨w1, hw1⟩ : ∃ w1, w.alloc (.cells #[.int .i64 7, .int .i64 0, .int .i64 1, .int .i64 1, .int .i64 5, .int .i64 0, .int .i64 1, .int .i64 2] 36) = w1 := ⟨_, rfl⟩
  rw [hw1] at hB1 b1
  have hN1 : Nodes w1 w1.heap.size (some ⟨w.heap.size, 0, none⟩) E4 := Nodes.of_blk (xs := E4) b1 b1.lt
  have HN := Lib.hid (fun W (h : Below w1.heap.size w1 W) => Nodes.at hN1 h)
  have HW1 := Lib.hid hw1
  have K1 := Lib.hid (fun W h => show Calls Try.prog 9 #[.slice (some ⟨w.heap.size, 0, none⟩) 4 4, .int .i64 3] W _ from (C.of (some ⟨w.heap.size, 0, none⟩) 4 E4 3 W h (by decide)).mono (fun e w' q => q.ok leads4))
  have K2 := Lib.hid (fun W h => show Calls Try.prog 9 #[.slice (some ⟨w.heap.size, 0, none⟩) 4 4, .int .i64 4] W _ from (C.of (some ⟨w.heap.size, 0, none⟩) 4 E4 4 W h (by decide)).mono (fun e w' q => q.no none4))
  have K3 := Lib.hid (fun A c g W (h : IRow W W.heap.size A [1, 0]) (h' : IRow W W.heap.size (some ⟨g, 0, none⟩) [1, 0]) => show Calls Try.prog 11 #[.slice A 2 c, .slice (some ⟨g, 0, none⟩) 2 2] W (fun e w' => e = .returned (.bool true) ∧ Below W.heap.size W w') from (by
    have q := Arena.Ints_any A c [1, 0] (some ⟨g, 0, none⟩) 2 [1, 0] W h h' (by decide)
    simpa using q))
  have K4 := Lib.hid (fun A c W h h' (h2 : 2 ≤ c) h3 => show Calls Try.prog 12 #[.slice (some ⟨w.heap.size, 0, none⟩) 4 4, .slice A 2 c] W (fun e w' => e = .returned (.int .i64 3) ∧ Below W.heap.size W w') from (by
    have q := C.find (some ⟨w.heap.size, 0, none⟩) 4 E4 A c [1, 0] W h (by decide) h' (by decide) h2 h3
    rw [find4a] at q; exact q))
  have K5 := Lib.hid (fun W h => show Calls Try.prog 12 #[.slice (some ⟨w.heap.size, 0, none⟩) 4 4, .slice none 0 0] W (fun e w' => e = .returned (.int .i64 0) ∧ Below W.heap.size W w') from (by
    have q := C.find (some ⟨w.heap.size, 0, none⟩) 4 E4 none 0 [] W h (by decide) (row_nil _ _) (by decide) (Nat.le_refl _) (fun _ => rfl)
    rw [find4b] at q; exact q))
  have K6 := Lib.hid (fun g W h h' => show Calls Try.prog 12 #[.slice (some ⟨w.heap.size, 0, none⟩) 4 4, .slice (some ⟨g, 0, none⟩) 1 1] W (fun e w' => e = .returned (.int .i64 (-1)) ∧ Below W.heap.size W w') from (by
    have q := C.find (some ⟨w.heap.size, 0, none⟩) 4 E4 (some ⟨g, 0, none⟩) 1 [2] W h (by decide) h' (by decide) (Nat.le_refl _) (fun e => by cases e)
    rw [find4c] at q; exact q))
  have K7 := Lib.hid (fun A c W (h : IRow W W.heap.size A [1, 0]) (h2 : 2 ≤ c) h3 => show Calls Try.prog 15 #[.slice none 0 0, .slice A 2 c] W (fun e w' => e = .returned (.int .i64 (-1)) ∧ Below W.heap.size W w') from C.compare none 0 [] A c [1, 0] W (row_nil _ _) h (by decide) (by decide) (Nat.le_refl _) h2 (fun _ => rfl) h3)
  have K8 := Lib.hid (fun A c W (h : IRow W W.heap.size A [1, 0]) (h2 : 2 ≤ c) h3 => show Calls Try.prog 15 #[.slice A 2 c, .slice A 2 c] W (fun e w' => e = .returned (.int .i64 0) ∧ Below W.heap.size W w') from C.compare A c [1, 0] A c [1, 0] W h h (by decide) (by decide) h2 h2 h3 h3)
  have K9 := Lib.hid (fun A c g W (h : IRow W W.heap.size A [1, 0]) (h' : IRow W W.heap.size (some ⟨g, 0, none⟩) [0]) (h2 : 2 ≤ c) h3 => show Calls Try.prog 15 #[.slice A 2 c, .slice (some ⟨g, 0, none⟩) 1 1] W (fun e w' => e = .returned (.int .i64 1) ∧ Below W.heap.size W w') from C.compare A c [1, 0] (some ⟨g, 0, none⟩) 1 [0] W h h' (by decide) (by decide) h2 (Nat.le_refl _) h3 (fun e => by cases e))
  clear b1 hw1 hN1
  go_enter Try.func8, Try.ntmps8
  go_wp2_with fail
  rw [HW1.out]
  refine (K1.out _ (HN.out _ (Below.refl _ _))).mono ?_
  rintro e w2 ⟨hb2, A, c, rfl, h2c, h2n, h2r⟩
  have HR := Lib.hid (fun W (h : Below w2.heap.size w2 W) => IRow.at h2r h)
  have hz : Below w2.heap.size w2 w2 := Below.refl _ _
  go_wp2_with fail
  refine (K2.out _ (HN.out _ (hb2.trans (hz.mono hb2.size)))).mono ?_
  rintro e w3 ⟨hb3, A3, c3, rfl⟩
  have hB3 : Below w2.heap.size w2 w3 := hz.trans (hb3.mono hz.size)
  go_wp2_with fail
  have ha4 : Below w2.heap.size w2 (w3.alloc (.cells #[.int .i64 1, .int .i64 0] 3)) := hB3.alloc hB3.size _
  have hl4 := IRow.of_blk (B := (w3.alloc (.cells #[.int .i64 1, .int .i64 0] 3)).heap.size) (ks := [1, 0]) (Blk.new w3 3 #[.int .i64 1, .int .i64 0]) (by simp)
  refine (K3.out A c _ _ (HR.out _ ha4) hl4).mono ?_
  rintro e w4 ⟨rfl, hb4⟩
  have hB4 : Below w2.heap.size w2 w4 := ha4.trans (hb4.mono ha4.size)
  go_wp2_with fail
  refine (K4.out A c _ (HN.out _ (hb2.trans (hB4.mono hb2.size))) (HR.out _ hB4) h2c h2n).mono ?_
  rintro e w5 ⟨rfl, hb5⟩
  have hB5 : Below w2.heap.size w2 w5 := hB4.trans (hb5.mono hB4.size)
  go_wp2_with fail
  refine (K5.out _ (HN.out _ (hb2.trans (hB5.mono hb2.size)))).mono ?_
  rintro e w6 ⟨rfl, hb6⟩
  have hB6 : Below w2.heap.size w2 w6 := hB5.trans (hb6.mono hB5.size)
  go_wp2_with fail
  have ha7 : Below w2.heap.size w2 (w6.alloc (.cells #[.int .i64 2] 3)) := hB6.alloc hB6.size _
  have hl7 := IRow.of_blk (B := (w6.alloc (.cells #[.int .i64 2] 3)).heap.size) (ks := [2]) (Blk.new w6 3 #[.int .i64 2]) (by simp)
  refine (K6.out _ _ (HN.out _ (hb2.trans (ha7.mono hb2.size))) hl7).mono ?_
  rintro e w7 ⟨rfl, hb7⟩
  have hB7 : Below w2.heap.size w2 w7 := ha7.trans (hb7.mono ha7.size)
  go_wp2_with fail
  refine (K7.out A c _ (HR.out _ hB7) h2c h2n).mono ?_
  rintro e w8 ⟨rfl, hb8⟩
  have hB8 : Below w2.heap.size w2 w8 := hB7.trans (hb8.mono hB7.size)
  go_wp2_with fail
  refine (K8.out A c _ (HR.out _ hB8) h2c h2n).mono ?_
  rintro e w9 ⟨rfl, hb9⟩
  have hB9 : Below w2.heap.size w2 w9 := hB8.trans (hb9.mono hB8.size)
  go_wp2_with fail
  have ha10 : Below w2.heap.size w2 (w9.alloc (.cells #[.int .i64 0] 3)) := hB9.alloc hB9.size _
  have hl10 := IRow.of_blk (B := (w9.alloc (.cells #[.int .i64 0] 3)).heap.size) (ks := [0]) (Blk.new w9 3 #[.int .i64 0]) (by simp)
  refine (K9.out A c _ _ (HR.out _ ha10) hl10 h2c h2n).mono ?_
  rintro e w10 ⟨rfl, hb10⟩
  have hB10 : Below w2.heap.size w2 w10 := ha10.trans (hb10.mono ha10.size)
  go_wp2_with fail
  go_ret
  exact ⟨rfl, hB1.trans ((hb2.trans (hB10.mono hb2.size)).mono hB1.size)⟩

end Go.Proofs.Ytjjdpjdmeeholaa.Path
