/-
  Package container, walked: the index.
-/
import Derived.Test.YtfjdbbhaigjbmaaGreatContBegin
import Derived.Test.YtfjdbbhaigjbmaaGreatWireG
namespace Go.Proofs.YtfjdbbhaigjbmaaGreat.Cont
open Go.RowKit Go.Shelf Leb Mem _root_.Go.Proofs.YtfjdbbhaigjbmaaGreat.Frame _root_.Go.Proofs.YtfjdbbhaigjbmaaGreat.RangeP

attribute [local go_sem] Oper.semAt_some

theorem ixs_snoc' (n : Nat) (l : List Sec) (x : Sec) : ixs n l ++ lput (u64 x.1) ++ lput (7 + (body l).length) ++ lput (size x) = ixs n (l ++ [x]) := by
  unfold ixs
  rw [idx_snoc]
  simp [List.append_assoc]

/-- The writer g holds the index so far; its pointer lies in N. -/
def Ix (w0 : World) (N g n : Nat) (xs : List Sect) (pre : List (Int × Sect)) (Φ : Nat → Prop) (W : World) : Prop :=
  ∃ R, Φ = Wire.Its g R ∧ Wire.Wr W g R (ixs n (secs (xs.take pre.length))) ∧ Blk W N 40 #[.pointer (some ⟨g, 0, none⟩)] ∧ ¬ Wire.Its g R N ∧ Below w0.heap.size w0 W ∧ w0.heap.size ≤ g ∧ ∀ k, R = some k → w0.heap.size ≤ k

theorem Ix.lt {w0 : World} {N g n : Nat} {xs : List Sect} (s : List (Int × Sect)) (Φ : Nat → Prop) (X : World) (h : Ix w0 N g n xs s Φ X) : ∀ k, Φ k → k < X.heap.size := by
  obtain ⟨R, rfl, h2, -⟩ := h
  exact h2.its_lt
theorem Ix.kept {w0 : World} {N g n : Nat} {xs : List Sect} (s : List (Int × Sect)) (Φ : Nat → Prop) (X Y : World) (l : Nat) (hl : w0.heap.size ≤ l) (hN : N < l) (hn : ¬ Φ l) (h : Ix w0 N g n xs s Φ X) (hK : Kept (· = l) X Y) : Ix w0 N g n xs s Φ Y := by
  obtain ⟨R, rfl, h2, h3, h4, h5, h6, h7⟩ := h
  exact ⟨R, rfl, h2.kept hK (fun e => hn (.inl e.symm)) (fun i hi e => hn (e ▸ .inr hi)), h3.kept hK (by omega), h4, h5.trans (hK.to_below h5.size (fun k e => by omega)), h6, h7⟩

set_option maxRecDepth 100000 in
set_option maxHeartbeats 1000000 in
theorem index_in (A : Option Addr) (cap : Nat) (xs : List Sect) (w : World) (hx : Sects w w.heap.size A xs) (hl : Lim xs) :
    CallsIn Fence.wide 4 Tryz.prog 9 #[.slice A xs.length cap] w fun e w' => e = .returned (.string (str (index (secs xs)))) ∧ Below w.heap.size w w' := by
  have hl0 := hl.1
  have hwn : IntKind.u64.wrap (xs.length : Int) = (xs.length : Int) := by rw [IntKind.wrap_u64]; omega
  have HN0 := Lib.hid (fun (W : World) h => Wire.Wb.num (g := w.heap.size) (R0 := none) (W := W) (w := W) (l := []) h (xs.length : Int) (by omega) (by omega) (by simp))
  refine callsIn_of_at Tryz.func9 rfl trivial ?_ rfl
  simp only [Tryz.ntmps9, List.size_toArray, List.length_cons, List.length_nil, Nat.reduceAdd, Nat.reduceSub, Array.replicate_succ, Array.replicate_zero, List.push_toArray, List.append_toArray, List.nil_append, List.cons_append]
  refine At.seq trivial (At.of trivial ?_)
  gi_wp2
  refine At.seq trivial (At.of trivial ?_)
  have hf0 : Fence.wide.fn 22 := trivial
  have hf1 : Fence.wide.fn 23 := trivial
  have hf2 : Fence.wide.fn 24 := trivial
  gi_wp2_with (first | (gi_at_call 22; refine ((callsIn_wide (n := 3)).2 (Wire.New_any _)).mono ?_; rintro e w1 ⟨rfl, hW1, hb1⟩) | (gi_at_call 23; refine ((callsIn_wide (n := 3)).2 (HN0.out _ (Wire.Wb.start hW1))).mono ?_; rintro e w2 ⟨rfl, hWb⟩))
  rw [Int.toNat_natCast, List.nil_append] at hWb
  have hgw1 := hW1.lt
  have hB2 : Below w.heap.size w w2 := hb1.trans (hWb.to_below hb1.size (Nat.le_refl _) (fun k e => by cases e))
  obtain ⟨R, hW2, hK2, hR2⟩ := hWb
  have hg2 : w.heap.size < w2.heap.size := hW2.lt
  have hRB : ∀ k, R = some k → w.heap.size ≤ k := fun k hk => (hR2 k hk).elim (fun e => by cases e) (fun q => Nat.le_trans hb1.size q)
  have hni : ¬ Wire.Its w.heap.size R w2.heap.size := fun h => Nat.lt_irrefl _ (hW2.its_lt _ h)
  have hBN := (Below.refl w2.heap.size w2).alloc (Nat.le_refl _) (.cells #[.pointer (some ⟨w.heap.size, 0, none⟩)] 40)
  have hW3 := hW2.below hBN
  have bN := Blk.new w2 40 #[.pointer (some ⟨w.heap.size, 0, none⟩)]
  have hB3 := hB2.trans (hBN.mono hB2.size)
  have HX := Lib.hid (Sects.below (B := w.heap.size) hx hB3)
  have hN3 := bN.lt
  clear HN0 hW1 hb1 hK2 hR2 hgw1 hB2 hBN hW2 hx
  generalize w2.alloc (.cells #[.pointer (some ⟨w.heap.size, 0, none⟩)] 40) = w3 at *
  refine At.seq trivial (At.seq trivial (At.of trivial ?_))
  gi_wp2_with (gi_at_call 24; refine ((callsIn_wide (n := 3)).2 (laid_any A xs.length cap _)).mono ?_; rintro e w4 ⟨rfl, rfl⟩)
  have hBS := (Below.refl w3.heap.size w3).alloc (Nat.le_refl _) (.cells #[.slice A xs.length cap] 22)
  have hB4 := hB3.trans (hBS.mono hB3.size)
  have bS := Blk.new w3 22 #[.slice A xs.length cap]
  have bN4 := bN.alloc (.cells #[.slice A xs.length cap] 22)
  have hX4 := Sects.below HX.out (hBS.mono hB3.size)
  have hW4 := hW3.below hBS
  have hN4 : w2.heap.size < (w3.alloc (.cells #[.slice A xs.length cap] 22)).heap.size := bN4.lt
  refine At.block trivial (At.rangeFunc rfl (by omega) trivial ⟨_, Tryz.func9⟩ (gf := 41) rfl trivial (enters_of Tryz.func41 (by kernel_rfl) rfl)
    (laid1_tells w3.heap.size w.heap.size A cap xs _ hl hB4.size bS.lt (bS.cell 0) hX4) (fun _ => rfl)
    (Ix w w2.heap.size w.heap.size xs.length xs) (fun _ _ _ => False) (Wire.Its w.heap.size R) ?hIs ?hI ?h0 ?hOwn ?hOwn2 ?hround ?hdone ?hdie)
  case hIs => exact Ix.lt
  case hI => exact fun s Φ X Y l hl' => Ix.kept s Φ X Y l (Nat.le_trans hB4.size hl') (Nat.lt_of_lt_of_le hN4 hl')
  case h0 =>
    have e0 : ixs xs.length (secs (xs.take ([] : List (Int × Sect)).length)) = lput xs.length := by simp [secs, ixs, idx]
    exact ⟨R, rfl, e0 ▸ hW4, bN4, hni, hB4, Nat.le_refl _, hRB⟩
  case hOwn =>
    rintro k (rfl | h) h2
    · exact Nat.lt_irrefl _ h2
    · have := hRB k h; omega
  case hOwn2 => exact fun k hk => Nat.lt_of_lt_of_le hk hB4.size
  case hdie => exact fun _ _ _ _ _ _ _ h => h.elim
  case hdone =>
    rintro D ys Φ W hD hlt hΦ rfl ⟨R', rfl, hWr, bC, hni', hB, -, hR'⟩ hK
    have HE := Lib.hid (show ixs xs.length (secs (xs.take (rowsA 7 xs).length)) = index (secs xs) by rw [rowsA_len, List.take_of_length_le (Nat.le_refl _)]; unfold ixs index; rw [secs_len])
    have cN := bC.cell 0
    have HB := Lib.hid (fun W h => Wire.Bytes_any w.heap.size R' (ixs xs.length (secs (xs.take (rowsA 7 xs).length))) W h)
    have hf3 : Fence.wide.fn 26 := trivial
    clear hX4 bS bN4 HX hB3 bN hW4 hW3 hni hRB
    refine At.of trivial ?_
    gi_wp2_with (gi_at_call 26; refine ((callsIn_wide (n := 3)).2 (HB.out _ hWr)).mono ?_; rintro e w5 ⟨rfl, rfl⟩)
    refine ⟨by simp, .inl ⟨_, _, rfl, run_takeDeferred hK, ?_⟩⟩
    refine ⟨_, results_tmp rfl _ _ _, ?_, hB.trans (belowK_b (w := w) (Nat.le_refl _) W D _ _ (by have := hB4.size; omega) hK rfl rfl)⟩
    rw [← HE.out]
    rfl
  case hround =>
    rintro l pre x Φ W hl1 hl2 hΦ ⟨R', rfl, hWr, bC, hni', hB, hgB, hR'⟩ hG
    obtain ⟨hxk, hx1⟩ := hG.last
    have hpl : pre.length < xs.length := (List.getElem?_eq_some_iff.1 hxk).1
    have hlm := reach_lim hl (k := pre.length) (by omega)
    have hxs := total_mem hxk
    have hz0 := ixs_size hl pre.length
    have hsn := ixs_snoc' xs.length (secs (xs.take pre.length)) (x.2.t, x.2.d.data.toList)
    rw [← secs_take xs pre.length x.2 hxk] at hsn
    have hzl := size_le (x := (x.2.t, x.2.d.data.toList)) (by rw [len_of]; have := hl.2; omega)
    simp only at hzl hsn
    rw [len_of] at hzl
    have hl2' := hl.2
    have hu := u64_wrap x.2.t
    have hul : u64 x.2.t ≤ 18446744073709551615 := by unfold u64; omega
    have HZ := Lib.hid (fun W => p_size_any x.2.t x.2.d (by have := hl.2; omega) W)
    generalize u64 x.2.t = T at *
    generalize size (x.2.t, x.2.d.data.toList) = z at *
    change x.1 = reach xs pre.length at hx1
    rw [str_size] at hz0
    obtain ⟨S, hS⟩ : ∃ S, ixs xs.length (secs (xs.take pre.length)) = S := ⟨_, rfl⟩
    rw [hS] at hWr hz0 hsn
    have p1 := lput_len10 hul
    have hq0 : (7 + (body (secs (xs.take pre.length))).length : Nat) = x.1.toNat := by rw [hx1]; unfold reach; omega
    rw [hq0] at hsn
    have p2 := lput_len10 (n := x.1.toNat) (by omega)
    have p3 := lput_len10 (n := z) (by omega)
    have hw2 : IntKind.u64.wrap x.1 = x.1 := by rw [IntKind.wrap_u64]; omega
    have hw3 : IntKind.u64.wrap (z : Int) = (z : Int) := by rw [IntKind.wrap_u64]; omega
    obtain ⟨⟨q, ⟨xt, xd⟩⟩, rfl⟩ : ∃ y, y = x := ⟨_, rfl⟩
    simp only at hu HZ hw2 p2 hsn hx1
    have hq1 : 0 ≤ q := by omega
    have hq2 : q ≤ 1000000000 := by omega
    have hz9 : z ≤ 1000000000 := by omega
    have bX := Blk.new W 34 #[.int .i64 xt, .string xd]
    have hBX := (Below.refl W.heap.size W).alloc (Nat.le_refl _) (.cells #[.int .i64 xt, .string xd] 34)
    have hB5 := hB.trans (hBX.mono hB.size)
    have bC5 := bC.alloc (.cells #[.int .i64 xt, .string xd] 34)
    have hWr5 := hWr.below hBX
    have hgl := hWr.its_lt
    have hwl : w.heap.size < l := Nat.lt_of_le_of_lt hB4.size hl1
    have hNW := bC.lt
    have hNl' : w2.heap.size < l := Nat.lt_trans hN4 hl1
    have HR := Lib.hid hsn
    rw [fold_told2]
    simp only [List.setIfInBounds_toArray, List.set_cons_succ, List.set_cons_zero]
    clear hx1 hlm hsn hxs hxk hG hX4 bS bN4 HX hB3 bN hW4 hW3 hni hRB hzl hS hq0 bC hWr
    gi_wp2
    refine ⟨hBX, fun W2 hK2 hs2 => ?_⟩
    rw [World.size_alloc] at hs2
    have bX2 := bX.kept hK2 (by omega)
    have bC2 := bC5.kept hK2 (by omega)
    have hWr2 := hWr5.kept hK2 (fun e => hΦ (.inl e.symm)) (fun i hi e => hΦ (e ▸ .inr hi))
    have hB6 := hB5.trans (hK2.to_below hB5.size (fun k e => by omega))
    have HN1 := Lib.hid (fun (Y : World) (h : Wire.Wb w.heap.size R' W2 S Y) => h.num (T : Int) (by omega) (by omega) (by omega))
    have HN2 := Lib.hid (fun (Y : World) (h : Wire.Wb w.heap.size R' W2 (S ++ lput T) Y) => h.num q (by omega) (by omega) (by rw [List.length_append]; omega))
    have HN3 := Lib.hid (fun (Y : World) (h : Wire.Wb w.heap.size R' W2 (S ++ lput T ++ lput q.toNat) Y) => h.num (z : Int) (by omega) (by omega) (by rw [List.length_append, List.length_append]; omega))
    rw [Int.toNat_natCast] at HN1 HN3
    have kN := bC2.cell 0
    obtain ⟨kX0, kX1⟩ := bX2.two
    have hNl := bC2.lt
    have hXl := bX2.lt
    have hXi : ¬ Wire.Its w.heap.size R' W.heap.size := fun h => Nat.lt_irrefl _ (hgl _ h)
    have hNi := hni'
    have hWb0 := (Wire.Wb.start hWr2).drew
    clear hBX hWr5 bX bC5 hB5 hK2
    gi_wp2
    have k0 := kN
    have k1 := kX0
    have k2 := kX1
    refine wpIn_region_round (S := fun w' => w'.cell? ⟨w2.heap.size, 0, none⟩ = some (.pointer (some ⟨w.heap.size, 0, none⟩)) ∧ w'.cell? ⟨W.heap.size, 0, none⟩ = some (.int .i64 xt) ∧ w'.cell? ⟨W.heap.size, 1, none⟩ = some (.string xd)) (by kernel_rfl) (by kernel_rfl) (fun h => by obtain ⟨_, _, h⟩ := h; exact h) ⟨k0, k1, k2⟩ (fun hHeld => ?_)
    refine wpAnyH_take (i := 0) (oi := ⟨some 15, _, _, _, _, none⟩) (v := ?_) rfl (by kernel_rfl) (by kernel_rfl) (by kernel_rfl) (fun _ _ _ h => h) (Or.inl ⟨by rfl, ?_⟩) (by assumption) ?_
    rotate_left
    · intro w hSw; (try dsimp only at hSw); go_simp; try with_reducible rfl
    try simp only [Act.put, List.setIfInBounds_toArray, List.set_cons_zero, List.set_cons_succ]
    refine wpAnyH_take (i := 1) (oi := ⟨some 16, _, _, _, _, none⟩) (v := ?_) rfl (by kernel_rfl) (by kernel_rfl) (by kernel_rfl) (fun _ _ _ h => h) (Or.inl ⟨by rfl, ?_⟩) (by assumption) ?_
    rotate_left
    · intro w hSw; (try dsimp only at hSw); go_simp; try with_reducible rfl
    try simp only [Act.put, List.setIfInBounds_toArray, List.set_cons_zero, List.set_cons_succ]
    refine wpAnyH_take (i := 2) (oi := ⟨some 17, _, _, _, _, none⟩) (v := ?_) rfl (by kernel_rfl) (by kernel_rfl) (by kernel_rfl) (fun _ _ _ h => h) (Or.inl ⟨by rfl, ?_⟩) (by assumption) ?_
    rotate_left
    · intro w hSw; (try dsimp only at hSw); go_simp; try with_reducible rfl
    try simp only [Act.put, List.setIfInBounds_toArray, List.set_cons_zero, List.set_cons_succ]
    refine wpAnyH_take (i := 3) (oi := ⟨some 18, _, _, _, _, none⟩) (v := ?_) rfl (by kernel_rfl) (by kernel_rfl) (by kernel_rfl) (fun _ _ _ h => h) (Or.inl ⟨by rfl, ?_⟩) (by assumption) ?_
    rotate_left
    · intro w hSw; (try dsimp only at hSw); go_simp; try with_reducible rfl
    try simp only [Act.put, List.setIfInBounds_toArray, List.set_cons_zero, List.set_cons_succ]
    refine wpAnyH_take (i := 5) (oi := ⟨some 20, _, _, _, _, none⟩) (v := ?_) rfl (by kernel_rfl) (by kernel_rfl) (by kernel_rfl) (fun _ _ _ h => h) (Or.inl ⟨by rfl, ?_⟩) (by assumption) ?_
    rotate_left
    · intro w hSw; (try dsimp only at hSw); go_simp; try with_reducible rfl
    try simp only [Act.put, List.setIfInBounds_toArray, List.set_cons_zero, List.set_cons_succ]
    refine wpAnyH_take (i := 6) (oi := ⟨some 21, _, _, _, _, none⟩) (v := ?_) rfl (by kernel_rfl) (by kernel_rfl) (by kernel_rfl) (fun _ _ _ h => h) (Or.inl ⟨by rfl, ?_⟩) (by assumption) ?_
    rotate_left
    · intro w hSw; (try dsimp only at hSw); go_simp; try with_reducible rfl
    try simp only [Act.put, List.setIfInBounds_toArray, List.set_cons_zero, List.set_cons_succ]
    refine wpAnyH_take (i := 8) (oi := ⟨some 23, _, _, _, _, none⟩) (v := ?_) rfl (by kernel_rfl) (by kernel_rfl) (by kernel_rfl) (fun _ _ _ h => h) (Or.inl ⟨by rfl, ?_⟩) (by assumption) ?_
    rotate_left
    · intro w hSw; (try dsimp only at hSw); go_simp; try with_reducible rfl
    try simp only [Act.put, List.setIfInBounds_toArray, List.set_cons_zero, List.set_cons_succ]
    refine wpAnyH_ready (rs := [4]) (by kernel_rfl) (by simp) ?_
    refine AllReadyH.cons (o := ⟨some 19, _, _, _, _, none⟩) rfl (fun K hK => ?_) AllReadyH.nil
    go_simp
    go_at_call 23
    with_reducible refine (HN1.out _ hWb0).mono ?_
    rintro e w3 ⟨rfl, hWb1⟩; have k0 := (hWb1.cell (p := ⟨w2.heap.size, 0, none⟩) hNl hNi).trans kN; have k1 := (hWb1.cell (p := ⟨W.heap.size, 0, none⟩) hXl hXi).trans kX0; have k2 := (hWb1.cell (p := ⟨W.heap.size, 1, none⟩) hXl hXi).trans kX1
    go_wp2_with fail
    refine hK.out _ _ ⟨k0, k1, k2⟩ (fun hHeld => ?_)
    clear hK K
    try simp only [Act.put, List.setIfInBounds_toArray, List.set_cons_zero, List.set_cons_succ]
    refine wpAnyH_ready (rs := [7]) (by kernel_rfl) (by simp) ?_
    refine AllReadyH.cons (o := ⟨some 22, _, _, _, _, none⟩) rfl (fun K hK => ?_) AllReadyH.nil
    go_simp
    go_at_call 23
    with_reducible refine (HN2.out _ hWb1).mono ?_
    rintro e w4 ⟨rfl, hWb2⟩; have k0 := (hWb2.cell (p := ⟨w2.heap.size, 0, none⟩) hNl hNi).trans kN; have k1 := (hWb2.cell (p := ⟨W.heap.size, 0, none⟩) hXl hXi).trans kX0; have k2 := (hWb2.cell (p := ⟨W.heap.size, 1, none⟩) hXl hXi).trans kX1
    go_wp2_with fail
    refine hK.out _ _ ⟨k0, k1, k2⟩ (fun hHeld => ?_)
    clear hK K
    try simp only [Act.put, List.setIfInBounds_toArray, List.set_cons_zero, List.set_cons_succ]
    refine wpAnyH_ready (rs := [9]) (by kernel_rfl) (by simp) ?_
    refine AllReadyH.cons (o := ⟨some 24, _, _, _, _, none⟩) rfl (fun K hK => ?_) AllReadyH.nil
    go_simp
    go_at_call 25
    with_reducible refine (HZ.out _).mono ?_
    rintro e w5 ⟨rfl, hb5⟩; have hWb3 := hWb2.below hb5; have k0 := (hWb3.cell (p := ⟨w2.heap.size, 0, none⟩) hNl hNi).trans kN; have k1 := (hWb3.cell (p := ⟨W.heap.size, 0, none⟩) hXl hXi).trans kX0; have k2 := (hWb3.cell (p := ⟨W.heap.size, 1, none⟩) hXl hXi).trans kX1
    go_wp2_with fail
    refine hK.out _ _ ⟨k0, k1, k2⟩ (fun hHeld => ?_)
    clear hK K
    try simp only [Act.put, List.setIfInBounds_toArray, List.set_cons_zero, List.set_cons_succ]
    refine wpAnyH_take (i := 10) (oi := ⟨some 25, _, _, _, _, none⟩) (v := ?_) rfl (by kernel_rfl) (by kernel_rfl) (by kernel_rfl) (fun _ _ _ h => h) (Or.inl ⟨by rfl, ?_⟩) (by assumption) ?_
    rotate_left
    · intro w hSw; (try dsimp only at hSw); go_simp; try with_reducible rfl
    try simp only [Act.put, List.setIfInBounds_toArray, List.set_cons_zero, List.set_cons_succ]
    refine wpAnyH_ready (rs := [11]) (by kernel_rfl) (by simp) ?_
    refine AllReadyH.cons (o := ⟨some 26, _, _, _, _, none⟩) rfl (fun K hK => ?_) AllReadyH.nil
    go_simp
    go_at_call 23
    with_reducible refine (HN3.out _ hWb3).mono ?_
    rintro e w6 ⟨rfl, hWb4⟩; have k0 := (hWb4.cell (p := ⟨w2.heap.size, 0, none⟩) hNl hNi).trans kN; have k1 := (hWb4.cell (p := ⟨W.heap.size, 0, none⟩) hXl hXi).trans kX0; have k2 := (hWb4.cell (p := ⟨W.heap.size, 1, none⟩) hXl hXi).trans kX1
    go_wp2_with fail
    refine hK.out _ _ ⟨k0, k1, k2⟩ (fun hHeld => ?_)
    clear hK K
    try simp only [Act.put, List.setIfInBounds_toArray, List.set_cons_zero, List.set_cons_succ]
    refine wpAnyH_done (by kernel_rfl) ?_ _
    obtain ⟨R4, hWr4, hK4, hR4⟩ := hWb4
    refine ⟨hK4, Wire.Its w.heap.size R4, ⟨R4, rfl, ?_, bC2.kept hK4 hNi, ?_, hB6.trans (hK4.to_below hB6.size ?_), hgB, ?_⟩, ?_⟩
    · rw [List.length_append, List.length_singleton, ← HR.out]
      exact hWr4
    · rintro (e | e)
      · exact hNi (.inl e)
      · rcases hR4 _ e with q | q
        · exact hNi (.inr q)
        · omega
    · rintro k (rfl | hk)
      · exact hgB
      · exact hR' k hk
    · intro k hk
      rcases hR4 k hk with q | q
      · exact hR' k q
      · have := hB6.size; omega
    · rintro k (rfl | hk)
      · exact .inl (.inl rfl)
      · rcases hR4 k hk with q | q
        · exact .inl (.inr q)
        · exact .inr (by omega)

end Go.Proofs.YtfjdbbhaigjbmaaGreat.Cont
