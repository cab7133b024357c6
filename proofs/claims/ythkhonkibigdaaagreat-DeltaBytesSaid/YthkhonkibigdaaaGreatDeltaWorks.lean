/-
  The laws of layer 12, walked on what the package's functions come to: the document's example.
-/
import Derived.Test.YthkhonkibigdaaaGreatDeltaPkg
import Derived.Test.YthkhonkibigdaaaGreatDeltaRefG
import Derived.Test.YthkhonkibigdaaaGreatArenaH
namespace Go.Proofs.YthkhonkibigdaaaGreat.Delta
open Go.RowKit Leb Mem Wire _root_.Go.Proofs.YthkhonkibigdaaaGreat.Arena _root_.Go.Proofs.YthkhonkibigdaaaGreat.Kinds _root_.Go.Proofs.YthkhonkibigdaaaGreat.Path _root_.Go.Proofs.YthkhonkibigdaaaGreat.Code
set_option linter.unusedVariables false

/-- The document's example: Block 1, If, Bool 1, Block 0, Block 0; and with Not. -/
def B5 : List Nd := [(20, 1), (23, 0), (2, 1), (20, 0), (20, 0)]
def B6 : List Nd := [(20, 1), (23, 0), (6, 0), (2, 1), (20, 0), (20, 0)]
theorem b5s : scan 1 (B5.drop 0) = some 5 := by simp [B5, scan_cons, scan_0, ar, asks]
theorem b5e : aend B5 0 = 5 := aend_some (a := 0) b5s
theorem b5k : akids B5 0 = [1] := by
  unfold akids
  rw [if_neg (by rw [b5e]; omega), show (ar (B5.getD (0 : Int).toNat (0, 0))).toNat = 1 from by simp [B5, ar, asks], kidsFrom, kidsFrom]
  rfl
theorem b5f : pfind B5 [0] = 1 := by
  unfold pfind
  rw [if_pos (show aend B5 0 = B5.length from b5e), show ([0] : List Int) = ((0 : Nat) : Int) :: [] from rfl, down_go (q := 1) (by rw [b5k]; rfl)]
  rfl
theorem b5n : pfind B5 [1] = -1 := by
  unfold pfind
  rw [if_pos (show aend B5 0 = B5.length from b5e), down_no (by rw [b5k]; simp)]
theorem b5a : aerr B5 [0] 6 0 = 0 := by rw [aerr_at (a := 1) (x := (23, 0)) b5f rfl]; decide
theorem b5b : aerr B5 [1] 6 0 = 16 := aerr_path b5n 6 0
theorem b5c : aerr B5 [0] 4 0 = 17 := by rw [aerr_at (a := 1) (x := (23, 0)) b5f rfl]; decide
theorem b5d : anew B5 [0] 6 0 = B6 := by unfold anew; rw [b5f]; decide
theorem r6 : Right [0] 6 := ⟨by decide, by decide, by decide, by decide⟩
theorem n0 : N64 0 := ⟨by decide, by decide⟩
theorem put6 : dput [0] 6 0 = [1, 0, 6, 0] := by
  unfold dput pathb
  have h1 : lput 1 = [1] := lput_lo (by omega)
  have h0 : lput 0 = [0] := lput_lo (by omega)
  simp [tb, Zig.zig, h1, h0]
theorem six_of_blk {w : World} {g B : Nat} (h : Blk w g 45 #[.int .i64 20, .int .i64 1, .int .i64 23, .int .i64 0, .int .i64 6, .int .i64 0, .int .i64 2, .int .i64 1, .int .i64 20, .int .i64 0, .int .i64 20, .int .i64 0]) (hB : g < B) : Nodes w B (some ⟨g, 0, none⟩) B6 := Nodes.of_blk (xs := B6) h hB
theorem one_of_blk {w : World} {g B : Nat} {k : Int} (h : Blk w g 3 #[.int .i64 k]) (hB : g < B) : IRow w B (some ⟨g, 0, none⟩) [k] := IRow.of_blk (ks := [k]) h hB

set_option maxRecDepth 100000 in
set_option maxHeartbeats 4000000 in
theorem works_any (C : Pkg) (w : World) : Calls Tryz.prog 5 #[] w fun e w' => e = .returned (.bool true) ∧ Below w.heap.size w w' := by
  obtain ⟨w5, hw5⟩ : ∃ w5, (((w.alloc (.cells #[.int .i64 20, .int .i64 1, .int .i64 23, .int .i64 0, .int .i64 2, .int .i64 1, .int .i64 20, .int .i64 0, .int .i64 20, .int .i64 0] 45)).alloc (.cells #[.int .i64 0, .slice none 0 0, .slice (some ⟨w.heap.size, 0, none⟩) 5 5] 36)).alloc (.cells #[.int .i64 0] 3)).alloc (.cells #[.slice (some ⟨w.heap.size + 1 + 1, 0, none⟩) 1 1, .int .i64 6, .int .i64 0] 24) = w5 := ⟨_, rfl⟩
  have b0 := (((Blk.new w 45 #[.int .i64 20, .int .i64 1, .int .i64 23, .int .i64 0, .int .i64 2, .int .i64 1, .int .i64 20, .int .i64 0, .int .i64 20, .int .i64 0]).alloc (.cells #[.int .i64 0, .slice none 0 0, .slice (some ⟨w.heap.size, 0, none⟩) 5 5] 36)).alloc (.cells #[.int .i64 0] 3)).alloc (.cells #[.slice (some ⟨w.heap.size + 1 + 1, 0, none⟩) 1 1, .int .i64 6, .int .i64 0] 24)
  have b1 := ((Blk.new (w.alloc (.cells #[.int .i64 20, .int .i64 1, .int .i64 23, .int .i64 0, .int .i64 2, .int .i64 1, .int .i64 20, .int .i64 0, .int .i64 20, .int .i64 0] 45)) 36 #[.int .i64 0, .slice none 0 0, .slice (some ⟨w.heap.size, 0, none⟩) 5 5]).alloc (.cells #[.int .i64 0] 3)).alloc (.cells #[.slice (some ⟨w.heap.size + 1 + 1, 0, none⟩) 1 1, .int .i64 6, .int .i64 0] 24)
  have b2 := (Blk.new ((w.alloc (.cells #[.int .i64 20, .int .i64 1, .int .i64 23, .int .i64 0, .int .i64 2, .int .i64 1, .int .i64 20, .int .i64 0, .int .i64 20, .int .i64 0] 45)).alloc (.cells #[.int .i64 0, .slice none 0 0, .slice (some ⟨w.heap.size, 0, none⟩) 5 5] 36)) 3 #[.int .i64 0]).alloc (.cells #[.slice (some ⟨w.heap.size + 1 + 1, 0, none⟩) 1 1, .int .i64 6, .int .i64 0] 24)
  have b3 := Blk.new (((w.alloc (.cells #[.int .i64 20, .int .i64 1, .int .i64 23, .int .i64 0, .int .i64 2, .int .i64 1, .int .i64 20, .int .i64 0, .int .i64 20, .int .i64 0] 45)).alloc (.cells #[.int .i64 0, .slice none 0 0, .slice (some ⟨w.heap.size, 0, none⟩) 5 5] 36)).alloc (.cells #[.int .i64 0] 3)) 24 #[.slice (some ⟨w.heap.size + 1 + 1, 0, none⟩) 1 1, .int .i64 6, .int .i64 0]
  have hB : Below w.heap.size w w5 := by
    rw [← hw5]
    exact ((((Below.refl _ w).alloc (Nat.le_refl _) _).alloc (by simp) _).alloc (by simp; omega) _).alloc (by simp; omega) _
  rw [hw5] at b0 b1 b2 b3
  simp only [World.size_alloc] at b0 b1 b2 b3
  have l0 := b0.lt
  have l1 := b1.lt
  have l2 := b2.lt
  have l3 := b3.lt
  have oP : Prg.Ok ⟨0, none, 0, [], some ⟨w.heap.size, 0, none⟩, 5, B5⟩ w5 := ⟨fun i x h => by simp at h, Nodes.of_blk (xs := B5) b0 l0, by simp, by simp [B5], by simp, by simp [B5], fun _ => rfl, fun e => by cases e⟩
  have oD : Dlt.Ok ⟨some ⟨w.heap.size + 1 + 1, 0, none⟩, 1, [0], 6, 0⟩ w5 := ⟨one_of_blk b2 l2, by simp, by simp, fun e => by cases e⟩
  have HP := Lib.hid (fun W (h : Below w5.heap.size w5 W) => oP.at h)
  have HD := Lib.hid (fun W (h : Below w5.heap.size w5 W) => oD.at h)
  have H1 := Lib.hid (fun W (h : Below w5.heap.size w5 W) => (b1.below h l1).three)
  have H3 := Lib.hid (fun W (h : Below w5.heap.size w5 W) => (b3.below h l3).three)
  have HW5 := Lib.hid hw5
  have HB := Lib.hid hB
  obtain ⟨S4, hS4⟩ : ∃ S4 : ByteArray, (⟨([1, 0, 6, 0] : List UInt8).toArray⟩ : ByteArray) = S4 := ⟨_, rfl⟩
  have hbe : (S4.toList == [1, 0, 6, 0]) = true := by rw [← hS4, ByteArray.toList_eq]; rfl
  have hfit := dfits_put (S := S4) r6 n0.1 n0.2 (by rw [← hS4, put6])
  have k1 := Lib.hid (fun W h h' => show Calls Tryz.prog 14 #[.agg #[.int .i64 0, .slice none 0 0, .slice (some ⟨w.heap.size, 0, none⟩) 5 5], .agg #[.slice (some ⟨w.heap.size + 1 + 1, 0, none⟩) 1 1, .int .i64 6, .int .i64 0]] W (fun e w' => Below W.heap.size W w' ∧ ∃ A c B ce, e = .returned (.tuple #[.agg #[.int .i64 0, .slice A 0 c, .slice B 6 ce], .int .i64 0]) ∧ Prg.Ok ⟨0, A, c, [], B, ce, B6⟩ w') from
    (C.apply ⟨0, none, 0, [], some ⟨w.heap.size, 0, none⟩, 5, B5⟩ ⟨some ⟨w.heap.size + 1 + 1, 0, none⟩, 1, [0], 6, 0⟩ W h h' (by simp [B5])).mono (fun e w' q => by have r := q.ok b5a; rw [show anew (Prg.xs ⟨0, none, 0, [], some ⟨w.heap.size, 0, none⟩, 5, B5⟩) (Dlt.p ⟨some ⟨w.heap.size + 1 + 1, 0, none⟩, 1, [0], 6, 0⟩) (Dlt.op ⟨some ⟨w.heap.size + 1 + 1, 0, none⟩, 1, [0], 6, 0⟩) (Dlt.n ⟨some ⟨w.heap.size + 1 + 1, 0, none⟩, 1, [0], 6, 0⟩) = B6 from b5d] at r; exact r))
  have k2 := Lib.hid (fun g W h h' => show Calls Tryz.prog 14 #[.agg #[.int .i64 0, .slice none 0 0, .slice (some ⟨w.heap.size, 0, none⟩) 5 5], .agg #[.slice (some ⟨g, 0, none⟩) 1 1, .int .i64 6, .int .i64 0]] W (fun e w' => Below W.heap.size W w' ∧ ∃ A c B ce, e = .returned (.tuple #[.agg #[.int .i64 0, .slice A 0 c, .slice B 0 ce], .int .i64 16])) from
    (C.apply ⟨0, none, 0, [], some ⟨w.heap.size, 0, none⟩, 5, B5⟩ ⟨some ⟨g, 0, none⟩, 1, [1], 6, 0⟩ W h h' (by simp [B5])).mono (fun e w' q => by have r := q.no (by rw [show aerr (Prg.xs ⟨0, none, 0, [], some ⟨w.heap.size, 0, none⟩, 5, B5⟩) (Dlt.p ⟨some ⟨g, 0, none⟩, 1, [1], 6, 0⟩) (Dlt.op ⟨some ⟨g, 0, none⟩, 1, [1], 6, 0⟩) (Dlt.n ⟨some ⟨g, 0, none⟩, 1, [1], 6, 0⟩) = 16 from b5b]; decide); rw [show aerr (Prg.xs ⟨0, none, 0, [], some ⟨w.heap.size, 0, none⟩, 5, B5⟩) (Dlt.p ⟨some ⟨g, 0, none⟩, 1, [1], 6, 0⟩) (Dlt.op ⟨some ⟨g, 0, none⟩, 1, [1], 6, 0⟩) (Dlt.n ⟨some ⟨g, 0, none⟩, 1, [1], 6, 0⟩) = 16 from b5b] at r; obtain ⟨r1, A, c, B, ce, r2, -⟩ := r; exact ⟨r1, A, c, B, ce, r2⟩))
  have k3 := Lib.hid (fun g W h h' => show Calls Tryz.prog 14 #[.agg #[.int .i64 0, .slice none 0 0, .slice (some ⟨w.heap.size, 0, none⟩) 5 5], .agg #[.slice (some ⟨g, 0, none⟩) 1 1, .int .i64 4, .int .i64 0]] W (fun e w' => Below W.heap.size W w' ∧ ∃ A c B ce, e = .returned (.tuple #[.agg #[.int .i64 0, .slice A 0 c, .slice B 0 ce], .int .i64 17])) from
    (C.apply ⟨0, none, 0, [], some ⟨w.heap.size, 0, none⟩, 5, B5⟩ ⟨some ⟨g, 0, none⟩, 1, [0], 4, 0⟩ W h h' (by simp [B5])).mono (fun e w' q => by have r := q.no (by rw [show aerr (Prg.xs ⟨0, none, 0, [], some ⟨w.heap.size, 0, none⟩, 5, B5⟩) (Dlt.p ⟨some ⟨g, 0, none⟩, 1, [0], 4, 0⟩) (Dlt.op ⟨some ⟨g, 0, none⟩, 1, [0], 4, 0⟩) (Dlt.n ⟨some ⟨g, 0, none⟩, 1, [0], 4, 0⟩) = 17 from b5c]; decide); rw [show aerr (Prg.xs ⟨0, none, 0, [], some ⟨w.heap.size, 0, none⟩, 5, B5⟩) (Dlt.p ⟨some ⟨g, 0, none⟩, 1, [0], 4, 0⟩) (Dlt.op ⟨some ⟨g, 0, none⟩, 1, [0], 4, 0⟩) (Dlt.n ⟨some ⟨g, 0, none⟩, 1, [0], 4, 0⟩) = 17 from b5c] at r; obtain ⟨r1, A, c, B, ce, r2, -⟩ := r; exact ⟨r1, A, c, B, ce, r2⟩))
  have k4 := Lib.hid (fun W h => show Calls Tryz.prog 7 #[.agg #[.slice (some ⟨w.heap.size + 1 + 1, 0, none⟩) 1 1, .int .i64 6, .int .i64 0]] W (fun e w' => e = .returned (.tuple #[.string S4, .int .i64 0]) ∧ Below W.heap.size W w') from (by
    have q := C.put ⟨some ⟨w.heap.size + 1 + 1, 0, none⟩, 1, [0], 6, 0⟩ W h r6 n0
    rw [show dput (Dlt.p ⟨some ⟨w.heap.size + 1 + 1, 0, none⟩, 1, [0], 6, 0⟩) (Dlt.op ⟨some ⟨w.heap.size + 1 + 1, 0, none⟩, 1, [0], 6, 0⟩) (Dlt.n ⟨some ⟨w.heap.size + 1 + 1, 0, none⟩, 1, [0], 6, 0⟩) = [1, 0, 6, 0] from put6, hS4] at q
    exact q))
  have k5 := Lib.hid (fun W => (C.get S4 W (by rw [← hS4, cstr_size]; decide)).mono (fun e w' h => h.ok hfit.1 hfit.2.1 hfit.2.2.1 hfit.2.2.2))
  have k6 := Lib.hid (fun B ce g W h h' => show Calls Tryz.prog 17 #[.slice B 6 ce, .slice (some ⟨g, 0, none⟩) 6 6] W (fun e w' => e = .returned (.bool true) ∧ Below W.heap.size W w') from (by
    have q := Arena.ref_Same_any B ce B6 (some ⟨g, 0, none⟩) 6 B6 W h h' (by decide)
    rw [show decide (B6 = B6) = true from by simp] at q
    exact q))
  have k7 := Lib.hid (fun A c W h h' => show Calls Tryz.prog 18 #[.agg #[.slice A 1 c, .int .i64 6, .int .i64 0], .agg #[.slice (some ⟨w.heap.size + 1 + 1, 0, none⟩) 1 1, .int .i64 6, .int .i64 0]] W (fun e w' => e = .returned (.bool true) ∧ Below W.heap.size W w') from (by
    have q := C.same ⟨A, c, [0], 6, 0⟩ ⟨some ⟨w.heap.size + 1 + 1, 0, none⟩, 1, [0], 6, 0⟩ W h h'
    exact q))
  have k8 := Lib.hid (fun W h => show Calls Tryz.prog 19 #[.agg #[.slice none 0 0, .int .i64 0, .int .i64 0], .agg #[.slice (some ⟨w.heap.size + 1 + 1, 0, none⟩) 1 1, .int .i64 6, .int .i64 0]] W (fun e w' => e = .returned (.int .i64 (-1)) ∧ Below W.heap.size W w') from (by
    have q := C.compare ⟨none, 0, [], 0, 0⟩ ⟨some ⟨w.heap.size + 1 + 1, 0, none⟩, 1, [0], 6, 0⟩ W ⟨fun i x h => by simp at h, by simp, by simp, fun _ => rfl⟩ h
    exact q))
  clear b0 b1 b2 b3 hw5 oP oD l0 l1 l2 l3 hS4 hfit hB
  go_enter Tryz.func5, Tryz.ntmps5
  go_wp2_with fail
  rw [HW5.out]
  refine (k1.out _ (HP.out _ (Below.refl _ _)) (HD.out _ (Below.refl _ _))).mono ?_
  rintro e w6 ⟨hB6, A, c, B, ce, rfl, ok6⟩
  have ba := hB6.alloc hB6.size (.cells #[.int .i64 0, .slice A 0 c, .slice B 6 ce] 36)
  have bb := ba.alloc ba.size (.cells #[.int .i64 1] 3)
  have bP := (Blk.new w6 36 #[.int .i64 0, .slice A 0 c, .slice B 6 ce]).alloc (.cells #[.int .i64 1] 3)
  have bI := Blk.new (w6.alloc (.cells #[.int .i64 0, .slice A 0 c, .slice B 6 ce] 36)) 3 #[.int .i64 1]
  rw [World.size_alloc] at bI
  have ok8 := (ok6.at ((Below.refl w6.heap.size w6).alloc (Nat.le_refl _) (.cells #[.int .i64 0, .slice A 0 c, .slice B 6 ce] 36))).at ((Below.refl _ _).alloc (Nat.le_refl _) (.cells #[.int .i64 1] 3))
  obtain ⟨x0, x1, x2⟩ := H1.out _ ba
  obtain ⟨w8, hw8⟩ : ∃ w8, (w6.alloc (.cells #[.int .i64 0, .slice A 0 c, .slice B 6 ce] 36)).alloc (.cells #[.int .i64 1] 3) = w8 := ⟨_, rfl⟩
  rw [hw8] at bb bP bI ok8
  have HW8 := Lib.hid hw8
  clear hw8 ok6 ba hB6
  have lP := bP.lt
  go_wp2_with fail
  rw [HW8.out]
  refine (k2.out _ _ (HP.out _ bb) ⟨one_of_blk bI bI.lt, by simp, by simp, fun e => by cases e⟩).mono ?_
  rintro e w9 ⟨hB9, A9, c9, B9, ce9, rfl⟩
  have h9 := bb.trans (hB9.mono bb.size)
  have bP9 := bP.below hB9 lP
  have ok9 := ok8.at hB9
  have ba := h9.alloc h9.size (.cells #[.int .i64 0, .slice A9 0 c9, .slice B9 0 ce9] 36)
  have bc := ba.alloc ba.size (.cells #[.int .i64 0] 3)
  have bPb := (bP9.alloc (.cells #[.int .i64 0, .slice A9 0 c9, .slice B9 0 ce9] 36)).alloc (.cells #[.int .i64 0] 3)
  have bIb := Blk.new (w9.alloc (.cells #[.int .i64 0, .slice A9 0 c9, .slice B9 0 ce9] 36)) 3 #[.int .i64 0]
  rw [World.size_alloc] at bIb
  have okb := (ok9.at ((Below.refl w9.heap.size w9).alloc (Nat.le_refl _) (.cells #[.int .i64 0, .slice A9 0 c9, .slice B9 0 ce9] 36))).at ((Below.refl _ _).alloc (Nat.le_refl _) (.cells #[.int .i64 0] 3))
  obtain ⟨x0, x1, x2⟩ := H1.out _ ba
  obtain ⟨wb, hwb⟩ : ∃ wb, (w9.alloc (.cells #[.int .i64 0, .slice A9 0 c9, .slice B9 0 ce9] 36)).alloc (.cells #[.int .i64 0] 3) = wb := ⟨_, rfl⟩
  rw [hwb] at bc bPb bIb okb
  have HWb := Lib.hid hwb
  clear hwb ok8 ok9 ba hB9 h9 bP9 bP bI bb
  go_wp2_with fail
  rw [HWb.out]
  refine (k3.out _ _ (HP.out _ bc) ⟨one_of_blk bIb bIb.lt, by simp, by simp, fun e => by cases e⟩).mono ?_
  rintro e wc ⟨hBc, Ac, cc, Bc, cec, rfl⟩
  have hc := bc.trans (hBc.mono bc.size)
  have bPc := bPb.below hBc bPb.lt
  have okc := okb.at hBc
  have bd := hc.alloc hc.size (.cells #[.int .i64 0, .slice Ac 0 cc, .slice Bc 0 cec] 36)
  have bPd := bPc.alloc (.cells #[.int .i64 0, .slice Ac 0 cc, .slice Bc 0 cec] 36)
  have okd := okc.at ((Below.refl wc.heap.size wc).alloc (Nat.le_refl _) (.cells #[.int .i64 0, .slice Ac 0 cc, .slice Bc 0 cec] 36))
  obtain ⟨y0, y1, y2⟩ := H3.out _ bd
  obtain ⟨wd, hwd⟩ : ∃ wd, wc.alloc (.cells #[.int .i64 0, .slice Ac 0 cc, .slice Bc 0 cec] 36) = wd := ⟨_, rfl⟩
  rw [hwd] at bd bPd okd
  have HWd := Lib.hid hwd
  clear hwd okb okc hBc hc bPc bPb bIb bc
  go_wp2_with fail
  rw [HWd.out]
  refine (k4.out _ (HD.out _ bd)).mono ?_
  rintro e we ⟨rfl, hBe⟩
  have he := bd.trans (hBe.mono bd.size)
  have bPe := bPd.below hBe bPd.lt
  have oke := okd.at hBe
  clear okd bPd bd hBe
  go_wp2_with fail
  refine (k5.out _).mono ?_
  rintro e wf ⟨hBf, Af, cf, rfl, okf⟩
  have hf := he.trans (hBf.mono he.size)
  have bPf := bPe.below hBf bPe.lt
  have okF := oke.at hBf
  have bDg := (Blk.new wf 24 #[.slice Af 1 cf, .int .i64 6, .int .i64 0]).alloc (.cells #[.int .i64 20, .int .i64 1, .int .i64 23, .int .i64 0, .int .i64 6, .int .i64 0, .int .i64 2, .int .i64 1, .int .i64 20, .int .i64 0, .int .i64 20, .int .i64 0] 45)
  have bg := (hf.alloc hf.size (.cells #[.slice Af 1 cf, .int .i64 6, .int .i64 0] 24)).alloc (Nat.le_trans hf.size (by simp)) (.cells #[.int .i64 20, .int .i64 1, .int .i64 23, .int .i64 0, .int .i64 6, .int .i64 0, .int .i64 2, .int .i64 1, .int .i64 20, .int .i64 0, .int .i64 20, .int .i64 0] 45)
  have ag : Below wf.heap.size wf ((wf.alloc (.cells #[.slice Af 1 cf, .int .i64 6, .int .i64 0] 24)).alloc (.cells #[.int .i64 20, .int .i64 1, .int .i64 23, .int .i64 0, .int .i64 6, .int .i64 0, .int .i64 2, .int .i64 1, .int .i64 20, .int .i64 0, .int .i64 20, .int .i64 0] 45)) := ((Below.refl _ _).alloc (Nat.le_refl _) _).alloc (by simp) _
  have bNg := Blk.new (wf.alloc (.cells #[.slice Af 1 cf, .int .i64 6, .int .i64 0] 24)) 45 #[.int .i64 20, .int .i64 1, .int .i64 23, .int .i64 0, .int .i64 6, .int .i64 0, .int .i64 2, .int .i64 1, .int .i64 20, .int .i64 0, .int .i64 20, .int .i64 0]
  rw [World.size_alloc] at bNg
  obtain ⟨z0, z1, z2⟩ := (bPf.alloc (.cells #[.slice Af 1 cf, .int .i64 6, .int .i64 0] 24)).three
  have okG := okF.at ag
  have okD := okf.at ag
  obtain ⟨wg, hwg⟩ : ∃ wg, (wf.alloc (.cells #[.slice Af 1 cf, .int .i64 6, .int .i64 0] 24)).alloc (.cells #[.int .i64 20, .int .i64 1, .int .i64 23, .int .i64 0, .int .i64 6, .int .i64 0, .int .i64 2, .int .i64 1, .int .i64 20, .int .i64 0, .int .i64 20, .int .i64 0] 45) = wg := ⟨_, rfl⟩
  rw [hwg] at bDg bg bNg okG okD
  have HWg := Lib.hid hwg
  clear hwg ag okF okf oke bPe he hBf hf
  go_wp2_with fail
  rw [HWg.out]
  refine (k6.out _ _ _ _ okG.body (six_of_blk bNg bNg.lt)).mono ?_
  rintro e wh ⟨rfl, hBh⟩
  have hh := bg.trans (hBh.mono bg.size)
  have bDh := bDg.below hBh bDg.lt
  have okH := okD.at hBh
  obtain ⟨u0, u1, u2⟩ := bDh.three
  obtain ⟨y0, y1, y2⟩ := H3.out _ hh
  go_wp2_with fail
  refine (k7.out _ _ _ okH (HD.out _ hh)).mono ?_
  rintro e wi ⟨rfl, hBi⟩
  have hi := hh.trans (hBi.mono hh.size)
  obtain ⟨y0, y1, y2⟩ := H3.out _ hi
  go_wp2_with fail
  refine (k8.out _ (HD.out _ hi)).mono ?_
  rintro e wj ⟨rfl, hBj⟩
  have hj := hi.trans (hBj.mono hi.size)
  go_wp2_with fail
  go_ret
  exact ⟨rfl, HB.out.trans (hj.mono HB.out.size)⟩

end Go.Proofs.YthkhonkibigdaaaGreat.Delta
