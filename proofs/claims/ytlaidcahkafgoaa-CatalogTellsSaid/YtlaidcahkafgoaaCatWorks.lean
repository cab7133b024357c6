/-
  The laws of layer 13, walked on what the package's functions come to: the document's examples.
-/
import Derived.Test.YtlaidcahkafgoaaCatG
set_option linter.unusedVariables false
namespace Go.Proofs.Ytlaidcahkafgoaa.Cat
open Go.RowKit Mem _root_.Go.Proofs.Ytlaidcahkafgoaa.Arena _root_.Go.Proofs.Ytlaidcahkafgoaa.Delta _root_.Go.Proofs.Ytlaidcahkafgoaa.Path
attribute [local go_sem ↓] Go.wp_at_zero Go.wp_at_succ

theorem ChEnds.got {l : List Nd} {a : Int} {w w' : World} {e : Ending} (h : ChEnds l a w e w') {L : List (Int × Int)} (hL : chs l a = L) : Below w.heap.size w w' ∧ ∃ A c, e = .returned (.slice A L.length c) ∧ L.length ≤ c ∧ (A = none → c = 0) ∧ DRow w' w'.heap.size A L := by
  obtain ⟨hb, A, c, h1, h2, h3, h4⟩ := h
  rw [hL] at h1 h2 h4
  exact ⟨hb, A, c, h1, h2, h3, h4⟩
theorem drow_two {w : World} {B : Nat} {A : Option Addr} {a b : Int × Int} (h : DRow w B A [a, b]) : ∃ ad, A = some ad ∧
    (w.cell? ⟨ad.block, ad.off + 1, none⟩ = some (.int .i64 a.1) ∧ w.cell? ⟨ad.block, ad.off + 2, none⟩ = some (.int .i64 a.2)) ∧
    (w.cell? ⟨ad.block, ad.off + 3 + 1, none⟩ = some (.int .i64 b.1) ∧ w.cell? ⟨ad.block, ad.off + 3 + 2, none⟩ = some (.int .i64 b.2)) := by
  obtain ⟨ad, P, c, rfl, -, -, -, h1, h2⟩ := h 0 a rfl
  obtain ⟨ad', P', c', e, -, -, -, h3, h4⟩ := h 1 b rfl
  cases e
  refine ⟨ad, rfl, ⟨?_, ?_⟩, ⟨?_, ?_⟩⟩
  · simpa [Addr.add] using h1
  · simpa [Addr.add] using h2
  · simpa [Addr.add] using h3
  · simpa [Addr.add] using h4

set_option maxRecDepth 100000 in
set_option maxHeartbeats 4000000 in
theorem works_any (C : Pkg) (w : World) : Calls Try.prog 8 #[] w fun e w' => e = .returned (.bool true) ∧ Below w.heap.size w w' := by
  have hB0 : Below w.heap.size w (w.alloc (.cells #[.int .i64 1, .int .i64 0] 43)) := (Below.refl _ _).alloc (Nat.le_refl _) _
  have bX := Blk.new w 43 #[.int .i64 1, .int .i64 0]
  have hX : Nodes _ _ (some ⟨w.heap.size, 0, none⟩) E1 := Nodes.of_blk (xs := E1) bX bX.lt
  have H1 := (C.choices (some ⟨w.heap.size, 0, none⟩) 1 E1 0 _ hX (by simp [E1]) (fun e => by cases e) (by simp [E1])).mono (fun e w' h => h.got ch1)
  have HB0 := Lib.hid hB0
  have K1 := Lib.hid H1
  clear hX bX hB0 H1
  go_enter Try.func8, Try.ntmps8
  go_wp2_with fail
  refine K1.out.mono ?_
  rintro e w1 ⟨hb1, A1, c1, rfl, hc1, -, hD1⟩
  have hB1 := HB0.out.trans (hb1.mono HB0.out.size)
  have D1 := Lib.hid hD1
  have bX := Blk.new w1 43 #[.int .i64 25, .int .i64 0, .int .i64 1, .int .i64 1]
  have hX : Nodes _ _ (some ⟨w1.heap.size, 0, none⟩) E2 := Nodes.of_blk (xs := E2) bX bX.lt
  have hb2 : Below w1.heap.size w1 (w1.alloc (.cells #[.int .i64 25, .int .i64 0, .int .i64 1, .int .i64 1] 43)) := (Below.refl _ _).alloc (Nat.le_refl _) _
  have HB2 := Lib.hid hb2
  obtain ⟨w2, hw2⟩ : ∃ w2, w1.alloc (.cells #[.int .i64 25, .int .i64 0, .int .i64 1, .int .i64 1] 43) = w2 := ⟨_, rfl⟩
  have HW2 := Lib.hid hw2
  rw [hw2] at HB2 hX
  have HX := Lib.hid (fun W (h : Below w2.heap.size w2 W) => Nodes.at hX h)
  have HC := Lib.hid (fun W hW => (C.choices (some ⟨w1.heap.size, 0, none⟩) 2 E2 0 W hW (by simp [E2]) (fun e => by cases e) (by simp [E2])).mono (fun e w' h => h.got ch2))
  have HI1 := Lib.hid (fun W hW => show Calls Try.prog 12 #[.slice (some ⟨w1.heap.size, 0, none⟩) 2 2, .int .i64 0, .int .i64 7, .int .i64 0] W (fun e w' => e = .returned (.bool true) ∧ Below W.heap.size W w') from is1 ▸ C.is (some ⟨w1.heap.size, 0, none⟩) 2 E2 0 7 0 W hW (by simp [E2]) (fun e => by cases e) (by simp [E2]))
  have HI2 := Lib.hid (fun W hW => show Calls Try.prog 12 #[.slice (some ⟨w1.heap.size, 0, none⟩) 2 2, .int .i64 0, .int .i64 7, .int .i64 1] W (fun e w' => e = .returned (.bool false) ∧ Below W.heap.size W w') from is2 ▸ C.is (some ⟨w1.heap.size, 0, none⟩) 2 E2 0 7 1 W hW (by simp [E2]) (fun e => by cases e) (by simp [E2]))
  have HN := Lib.hid (fun W => (C.choices none 0 [] 0 W (Nodes.nil _ _ _) (Nat.le_refl _) (fun _ => rfl) (by simp)).mono (fun e w' h => h.got ch0))
  clear hD1 bX hX hb2 hw2
  go_wp2_with fail
  rw [HW2.out]
  refine (HC.out _ (HX.out _ (Below.refl _ _))).mono ?_
  rintro e w3 ⟨hb3, A3, c3, rfl, hc3, -, hD3⟩
  obtain ⟨ad, rfl, ⟨a1, a2⟩, ⟨a3, a4⟩⟩ := drow_two (DRow.at (DRow.at D1.out HB2.out) hb3)
  obtain ⟨ad3, rfl, ⟨b1, b2⟩, ⟨b3, b4⟩⟩ := drow_two hD3
  have hB3 := hB1.trans ((HB2.out.mono hB1.size).trans (hb3.mono (Nat.le_trans hB1.size HB2.out.size)))
  clear hD3
  go_wp2_with fail
  refine (HI1.out _ (HX.out _ hb3)).mono ?_
  rintro e w4 ⟨rfl, hb4⟩
  have h4 := hb3.trans (hb4.mono hb3.size)
  have hB4 := hB3.trans (hb4.mono hB3.size)
  go_wp2_with fail
  refine (HI2.out _ (HX.out _ h4)).mono ?_
  rintro e w5 ⟨rfl, hb5⟩
  have hB5 := hB4.trans (hb5.mono hB4.size)
  go_wp2_with fail
  refine (HN.out _).mono ?_
  rintro e w6 ⟨hb6, A6, c6, rfl, -, -, -⟩
  have hB6 := hB5.trans (hb6.mono hB5.size)
  go_wp2_with fail
  go_ret
  exact ⟨rfl, hB6⟩

end Go.Proofs.Ytlaidcahkafgoaa.Cat
