/-
  The laws of layer 10, walked on what the package's functions come to: the document's example.
-/
import Derived.Test.YtpjijdgenojpcaaCodeG
import Derived.Test.YtpjijdgenojpcaaKindsG
import Derived.Test.YtpjijdgenojpcaaArenaH
namespace Go.Proofs.Ytpjijdgenojpcaa.Code
open Go.RowKit Leb Mem Wire _root_.Go.Proofs.Ytpjijdgenojpcaa.Arena _root_.Go.Proofs.Ytpjijdgenojpcaa.Kinds
set_option linter.unusedVariables false

def PE (g : Nat) : Prg := ⟨1, some ⟨g, 0, none⟩, 1, [0], some ⟨g + 1, 0, none⟩, 3, B9⟩
def P0 : Prg := ⟨0, none, 0, [], none, 0, []⟩
theorem P0_ok (w : World) : P0.Ok w := ⟨fun i x h => by simp [P0] at h, fun i x h => by simp [P0] at h, by decide, by decide, by decide, by decide, fun _ => rfl, fun _ => rfl⟩

set_option maxRecDepth 100000 in
set_option maxHeartbeats 4000000 in
theorem works_any (C : Pkg) (w : World) : Calls Try.prog 7 #[] w fun e w' => e = .returned (.bool true) ∧ Below w.heap.size w w' := by
  obtain ⟨w5, hw5⟩ : ∃ w5, (((w.alloc (.cells #[.int .i64 0] 3)).alloc (.cells #[.int .i64 20, .int .i64 1, .int .i64 25, .int .i64 0, .int .i64 3, .int .i64 0] 38)).alloc (.cells #[.int .i64 1, .slice (some ⟨w.heap.size, 0, none⟩) 1 1, .slice (some ⟨w.heap.size + 1, 0, none⟩) 3 3] 25)) = w5 := ⟨_, rfl⟩
  have b0 := ((Blk.new w 3 #[.int .i64 0]).alloc (.cells #[.int .i64 20, .int .i64 1, .int .i64 25, .int .i64 0, .int .i64 3, .int .i64 0] 38)).alloc (.cells #[.int .i64 1, .slice (some ⟨w.heap.size, 0, none⟩) 1 1, .slice (some ⟨w.heap.size + 1, 0, none⟩) 3 3] 25)
  have b1 := (Blk.new (w.alloc (.cells #[.int .i64 0] 3)) 38 #[.int .i64 20, .int .i64 1, .int .i64 25, .int .i64 0, .int .i64 3, .int .i64 0]).alloc (.cells #[.int .i64 1, .slice (some ⟨w.heap.size, 0, none⟩) 1 1, .slice (some ⟨w.heap.size + 1, 0, none⟩) 3 3] 25)
  have b2 := Blk.new ((w.alloc (.cells #[.int .i64 0] 3)).alloc (.cells #[.int .i64 20, .int .i64 1, .int .i64 25, .int .i64 0, .int .i64 3, .int .i64 0] 38)) 25 #[.int .i64 1, .slice (some ⟨w.heap.size, 0, none⟩) 1 1, .slice (some ⟨w.heap.size + 1, 0, none⟩) 3 3]
  have hB : Below w.heap.size w w5 := by
    rw [← hw5]
    exact (((Below.refl _ w).alloc (Nat.le_refl _) _).alloc (by simp) _).alloc (by simp; omega) _
  rw [hw5] at b0 b1 b2
  simp only [World.size_alloc] at b0 b1 b2
  have o1 : (PE w.heap.size).Ok w5 := ⟨IRow.of_blk (ks := [0]) b0 b0.lt, Nodes.of_blk (xs := B9) b1 b1.lt, (by simp [PE]), (by simp [PE, B9]), (by simp [PE]), (by simp [PE, B9]), (fun e => by cases e), (fun e => by cases e)⟩
  have l2 := b2.lt
  have HC := Lib.hid (fun W (h : Below w5.heap.size w5 W) => (b2.below h l2).three)
  have HO := Lib.hid (fun W (h : Below w5.heap.size w5 W) => o1.at h)
  have HW := Lib.hid hw5
  have HB := Lib.hid hB
  obtain ⟨S9, hS9⟩ : ∃ S9 : ByteArray, (⟨L9.toArray⟩ : ByteArray) = S9 := ⟨_, rfl⟩
  have hbe : (S9.toList == [1, 1, 0, 3, 20, 1, 25, 3, 0]) = true := by rw [← hS9, ByteArray.toList_eq]; rfl
  have hsz : S9.size ≤ 100 := by rw [← hS9, cstr_size]; simp [L9]
  have hz1 : (⟨#[0]⟩ : ByteArray).size = 1 := rfl
  have hq1 := fun W => run_string_add_sum (P := Try.prog) W S9 (⟨#[0]⟩ : ByteArray) (by rw [hz1]; omega)
  have c1 := Lib.hid (fun W (h : (PE w.heap.size).Ok W) => show Calls Try.prog 9 #[.agg #[.int .i64 1, .slice (some ⟨w.heap.size, 0, none⟩) 1 1, .slice (some ⟨w.heap.size + 1, 0, none⟩) 3 3]] W (fun e w' => e = .returned (.tuple #[.string S9, .int .i64 0]) ∧ Below W.heap.size W w') from (by
    have q := C.put (PE w.heap.size) W h NB9
    rw [show pput (PE w.heap.size).ps (PE w.heap.size).vs (PE w.heap.size).xs = L9 from pput9, show pcheck (PE w.heap.size).ps (PE w.heap.size).vs (PE w.heap.size).xs = 0 from pcheck9, hS9] at q
    exact q))
  have c2 := Lib.hid (fun W => show Calls Try.prog 9 #[.agg #[.int .i64 0, .slice none 0 0, .slice none 0 0]] W (fun e w' => e = .returned (.tuple #[.string ⟨#[]⟩, .int .i64 10]) ∧ Below W.heap.size W w') from (by
    have q := C.put P0 W (P0_ok W) (fun x h => by cases h)
    rw [show pput P0.ps P0.vs P0.xs = [] from pput_none, show pcheck P0.ps P0.vs P0.xs = 10 from pcheck_none] at q
    exact q))
  have hg1 := fun W => get9 C W
  have hg2 := fun W => get9m C W
  rw [hS9] at hg1 hg2
  have g1 := Lib.hid hg1
  have g2 := Lib.hid hg2
  clear hg1 hg2
  have s1 := Lib.hid (fun A c B ce W (h : (PE w.heap.size).Ok W) (h' : Prg.Ok ⟨1, A, c, [0], B, ce, B9⟩ W) => show Calls Try.prog 12 #[.agg #[.int .i64 1, .slice (some ⟨w.heap.size, 0, none⟩) 1 1, .slice (some ⟨w.heap.size + 1, 0, none⟩) 3 3], .agg #[.int .i64 1, .slice A 1 c, .slice B 3 ce]] W (fun e w' => e = .returned (.bool true) ∧ Below W.heap.size W w') from (by
    have q := Kinds.ref_Same_any (PE w.heap.size) ⟨1, A, c, [0], B, ce, B9⟩ W h h'
    rw [show decide ((PE w.heap.size).vs = [0] ∧ (PE w.heap.size).xs = B9 ∧ (PE w.heap.size).ps = 1) = true from by simp [PE]] at q
    exact q))
  clear b0 b1 b2 hw5 o1 l2 hS9 hz1 hsz
  go_enter Try.func7, Try.ntmps7
  go_wp2_with fail
  rw [HW.out]
  refine (c1.out _ (HO.out _ (Below.refl _ _))).mono ?_
  rintro e w6 ⟨rfl, hB6⟩
  obtain ⟨m0, m1, m2⟩ := HC.out _ hB6
  go_wp2_with fail
  refine (g1.out _).mono ?_
  rintro e w7 ⟨hB7, A, c, B, ce, rfl, hok7⟩
  have h57 := hB6.trans (hB7.mono hB6.size)
  have hB8 : Below w7.heap.size w7 (w7.alloc (.cells #[.int .i64 1, .slice A 1 c, .slice B 3 ce] 25)) := (Below.refl _ _).alloc (Nat.le_refl _) _
  have b8 := Blk.new w7 25 #[.int .i64 1, .slice A 1 c, .slice B 3 ce]
  obtain ⟨w8, hw8⟩ : ∃ w8, w7.alloc (.cells #[.int .i64 1, .slice A 1 c, .slice B 3 ce] 25) = w8 := ⟨_, rfl⟩
  rw [hw8] at hB8 b8
  have l8 := b8.lt
  have h58 := h57.trans (hB8.mono h57.size)
  have HC8 := Lib.hid (fun W (h : Below w8.heap.size w8 W) => (b8.below h l8).three)
  have HK8 := Lib.hid (fun W (h : Below w8.heap.size w8 W) => (hok7.at hB8).at h)
  have HW8 := Lib.hid hw8
  clear hw8 b8 hok7 hB8
  go_wp2_with fail
  rw [HW8.out]
  refine (g2.out _).mono ?_
  rintro e w9 ⟨hB9, A', c', B', ce', rfl, -⟩
  have hBa : Below w8.heap.size w8 (w9.alloc (.cells #[.int .i64 0, .slice A' 0 c', .slice B' 0 ce'] 25)) := hB9.alloc hB9.size _
  obtain ⟨wa, hwa⟩ : ∃ wa, w9.alloc (.cells #[.int .i64 0, .slice A' 0 c', .slice B' 0 ce'] 25) = wa := ⟨_, rfl⟩
  rw [hwa] at hBa
  have HWa := Lib.hid hwa
  clear hwa
  go_wp2_with fail
  rw [HWa.out]
  refine (c2.out _).mono ?_
  rintro e wb ⟨rfl, hBb⟩
  have h8b := hBa.trans (hBb.mono hBa.size)
  have h5b := h58.trans (h8b.mono h58.size)
  obtain ⟨m0, m1, m2⟩ := HC.out _ h5b
  obtain ⟨n0, n1, n2⟩ := HC8.out _ h8b
  go_wp2_with fail
  refine (s1.out A c B ce _ (HO.out _ h5b) (HK8.out _ h8b)).mono ?_
  rintro e wc ⟨rfl, hBc⟩
  go_wp2_with fail
  go_ret
  exact ⟨rfl, HB.out.trans ((h5b.trans (hBc.mono h5b.size)).mono HB.out.size)⟩

end Go.Proofs.Ytpjijdgenojpcaa.Code
