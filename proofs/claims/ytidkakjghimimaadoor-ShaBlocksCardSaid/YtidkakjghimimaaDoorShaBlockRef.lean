/-
  A block, walked: the state behind it, by the reference.
-/
import Derived.Great.BuildSlice
import Derived.Test.YtidkakjghimimaaDoorShaBlock
import Derived.Test.YtidkakjghimimaaDoorShaWordsRef
namespace Go.Proofs.YtidkakjghimimaaDoor.Sha
open Go.RowKit

set_option maxRecDepth 100000 in
set_option maxHeartbeats 1000000 in
theorem cubes_any (w : World) : Calls Tryd.prog 26 #[] w fun e w' => e = .returned (.agg (u32s cubes)) ∧ Below w.heap.size w w' := by
  have hz := zero46
  go_enter Tryd.func26, Tryd.ntmps26
  go_upto_region 1 with (fail)
  have hR := Row.new w 46 (u32s z64)
  go_step
  refine wpList_buildTo rfl 46 _ rfl (some 1) rfl (u32s cubes) (by kernel_rfl) ?_
  go_simp
  have hI : (Tryd.prog.info? 46).map (·.size) = some (u32s cubes).size := by rw [size46, u32s_size, cubes_len]
  have hO : (u32s z64).size = (u32s cubes).size := by rw [u32s_size, u32s_size]; rfl
  have H1 := u32s_one cubes
  have hB2 := below_setRow ((Below.refl _ w).alloc (Nat.le_refl _) (.cells (u32s z64) 46)) (g := w.heap.size) (Nat.le_refl _) (u32s cubes)
  have hR2 := hR.put (u32s cubes)
  have HI := Lib.hid hI
  have HO := Lib.hid hO
  have H19 := Lib.hid H1
  clear hI hO H1
  refine wpList_storeRow (op := ⟨none, .store 46 (.tmp 0) (.tmp 1), _, _, _, none⟩) rfl 46 (.tmp 0) (.tmp 1) rfl w.heap.size ?_ (cs := u32s cubes) ?_ hR HI.out HO.out H19.out ?_
  · rfl
  · rfl
  go_simp
  go_wp2_with fail
  exact bodyPost_ret (v := .agg (u32s cubes)) (results_row rfl rfl hR2 Tryd.underlying46 rfl HI.out) rfl ⟨rfl, hB2⟩

/-- What a round of the reference reads. -/
structure Held (W : World) (g7 g6 g5 n : Nat) (r : St) (k wv : Nat) : Prop where
  a : W.cell? ⟨g7, 0, none⟩ = some (.int .u32 (r.a : Int))
  b : W.cell? ⟨g7, 1, none⟩ = some (.int .u32 (r.b : Int))
  c : W.cell? ⟨g7, 2, none⟩ = some (.int .u32 (r.c : Int))
  d : W.cell? ⟨g7, 3, none⟩ = some (.int .u32 (r.d : Int))
  e : W.cell? ⟨g7, 4, none⟩ = some (.int .u32 (r.e : Int))
  f : W.cell? ⟨g7, 5, none⟩ = some (.int .u32 (r.f : Int))
  g : W.cell? ⟨g7, 6, none⟩ = some (.int .u32 (r.g : Int))
  h : W.cell? ⟨g7, 7, none⟩ = some (.int .u32 (r.h : Int))
  k : W.cell? ⟨g6, n, none⟩ = some (.int .u32 (k : Int))
  w : W.cell? ⟨g5, n, none⟩ = some (.int .u32 (wv : Int))
theorem Held.drewN {W : World} {g7 g6 g5 n : Nat} {r : St} {k wv : Nat} (x : Held W g7 g6 g5 n r k wv) (m : Nat) : Held (W.drewN m) g7 g6 g5 n r k wv := ⟨x.a, x.b, x.c, x.d, x.e, x.f, x.g, x.h, x.k, x.w⟩

/-- The memory of a run. -/
structure Mem (w W : World) (n3 : Nat) (hs : List Nat) (ws : List Nat) (v : List Nat) : Prop where
  below : Below w.heap.size w W
  r2 : Row W w.heap.size 26 (u32s hs)
  r4 : Row W (w.heap.size + 1 + 1) 26 (u32s z8)
  r5 : Row W n3 46 (u32s ws)
  r6 : Row W (n3 + 1) 46 (u32s cubes)
  r7 : Row W (n3 + 1 + 1) 26 (u32s v)
theorem Mem.drewN {w W : World} {n3 : Nat} {hs ws v : List Nat} (x : Mem w W n3 hs ws v) (m : Nat) : Mem w (W.drewN m) n3 hs ws v := ⟨belowN x.below m, x.r2, x.r4, x.r5, x.r6, x.r7⟩
theorem Mem.held {w W : World} {n3 : Nat} {hs ws : List Nat} {r : St} (x : Mem w W n3 hs ws r.list) {n : Nat} (hn : n < 64) (hl : ws.length = 64) : Held W (n3 + 1 + 1) (n3 + 1) n3 n r (cubes.getD n 0) (ws.getD n 0) :=
  ⟨x.r7.word 0 (by simp [St.list]), x.r7.word 1 (by simp [St.list]), x.r7.word 2 (by simp [St.list]), x.r7.word 3 (by simp [St.list]), x.r7.word 4 (by simp [St.list]), x.r7.word 5 (by simp [St.list]), x.r7.word 6 (by simp [St.list]), x.r7.word 7 (by simp [St.list]),
    x.r6.word n (by rw [cubes_len]; exact hn), x.r5.word n (by rw [hl]; exact hn)⟩
theorem Mem.put {w W : World} {n3 : Nat} {hs ws v : List Nat} (x : Mem w W n3 hs ws v) (hn : w.heap.size + 1 + 1 < n3) (v' : List Nat) : Mem w (W.setRow (n3 + 1 + 1) (u32s v')) n3 hs ws v' :=
  ⟨below_setRow x.below (by omega) _, x.r2.putApart (by omega) _, x.r4.putApart (by omega) _, x.r5.putApart (by omega) _, x.r6.putApart (by omega) _, x.r7.put _⟩

set_option maxRecDepth 100000 in
set_option maxHeartbeats 1000000 in
theorem ref_Block_any (hs : List Nat) (b : List UInt8) (hh : hs.length = 8) (hw : Words hs) (hb : b.length = 64) (w : World) :
    Calls Tryd.prog 15 #[.agg (u32s hs), .agg (u8s b)] w fun e w' => e = .returned (.agg (u32s (block hs b))) ∧ Below w.heap.size w w' := by
  have hz := zero26
  have hz2 := zero46
  have HB := Lib.hid hb
  have HH := Lib.hid hh
  clear hb hh
  have HW := Lib.hid hw
  clear hw
  go_enter Tryd.func15, Tryd.ntmps15
  go_upto_region 1 with (fail)
  generalize hw1 : ((w.alloc (Obj.cells (u32s hs) 26)).alloc (Obj.cells (u8s b) 27)).alloc (Obj.cells (u32s z8) 26) = w1
  have hB1 : Below w.heap.size w w1 := by rw [← hw1]; exact (((Below.refl _ w).alloc (Nat.le_refl _) _).alloc (by simp) _).alloc (by simp; omega) _
  have hR1 : Row w1 w.heap.size 26 (u32s hs) := by rw [← hw1]; exact ((Row.new _ _ _).alloc _).alloc _
  have hR2 : Row w1 (w.heap.size + 1) 27 (u8s b) := by
    rw [← hw1]
    have := (Row.new (w.alloc (Obj.cells (u32s hs) 26)) 27 (u8s b)).alloc (Obj.cells (u32s z8) 26)
    simpa using this
  have hR3 : Row w1 (w.heap.size + 1 + 1) 26 (u32s z8) := by
    rw [← hw1]
    have := Row.new ((w.alloc (Obj.cells (u32s hs) 26)).alloc (Obj.cells (u8s b) 27)) 26 (u32s z8)
    simpa using this
  have hsz1 : w.heap.size + 1 + 1 < w1.heap.size := hR3.lt
  clear hw1
  go_step
  with_reducible refine wpList_loadRow (op := ⟨some 14, .load 27 (.tmp 3), _, _, _, none⟩) rfl 27 (.tmp 3) rfl (w.heap.size + 1) ?_ hR2 Tryd.underlying27 rfl (by rw [size27, u8s_size, HB.out]) ?_
  · rfl
  go_simp
  go_wp2_with (go_at_call 25; (with_reducible refine (ref_words_any b HB.out _).mono ?_); rintro e w2 ⟨rfl, hB2⟩)
  have hwl := words_len b
  have hww := words_words b
  have HY : Hid (block hs b = added hs (rnds (words b) (St.of hs) 64).list 8) := Lib.hid rfl
  generalize words b = ws at *
  refine (cubes_any _).mono ?_
  rintro e w3 ⟨rfl, hB3⟩
  have hI : (Tryd.prog.info? 46).map (·.size) = some (u32s ws).size := by rw [size46, u32s_size, hwl]
  have HI := Lib.hid hI
  have hI2 : (Tryd.prog.info? 46).map (·.size) = some (u32s cubes).size := by rw [size46, u32s_size, cubes_len]
  have HI2 := Lib.hid hI2
  clear hI hI2
  have hsz3 : w.heap.size + 1 + 1 < w3.heap.size := by have := hB2.size; have := hB3.size; omega
  have hB33 : Below w.heap.size w w3 := (hB1.trans (hB2.mono (by omega))).trans (hB3.mono (by have := hB2.size; omega))
  have hR1 := (hR1.below hB2 (by omega)).below hB3 (by have := hB2.size; omega)
  have hR3 := (hR3.below hB2 (by omega)).below hB3 (by have := hB2.size; omega)
  clear hR2 hB1 hB2 hB3
  have hN := (Row.new w3 46 (u32s z64)).alloc (.cells (u32s z64) 46)
  have hN2 : Row ((w3.alloc (.cells (u32s z64) 46)).alloc (.cells (u32s z64) 46)) (w3.heap.size + 1) 46 (u32s z64) := by
    have := Row.new (w3.alloc (.cells (u32s z64) 46)) 46 (u32s z64)
    simpa using this
  have HO := Lib.hid (show (u32s z64).size = (u32s ws).size by rw [u32s_size, u32s_size, hwl]; rfl)
  have HO2 := Lib.hid (show (u32s z64).size = (u32s cubes).size by rw [u32s_size, u32s_size]; rfl)
  have H1 := Lib.hid (u32s_one ws)
  have H2 := Lib.hid (u32s_one cubes)
  have hN2' := hN2.putApart (show w3.heap.size + 1 ≠ w3.heap.size by omega) (u32s ws)
  have hA : Row ((((w3.alloc (.cells (u32s z64) 46)).alloc (.cells (u32s z64) 46)).setRow w3.heap.size (u32s ws)).setRow (w3.heap.size + 1) (u32s cubes)) w.heap.size 26 (u32s hs) :=
    (((hR1.alloc _).alloc _).putApart (by omega) _).putApart (by omega) _
  have hA4 : Row ((((w3.alloc (.cells (u32s z64) 46)).alloc (.cells (u32s z64) 46)).setRow w3.heap.size (u32s ws)).setRow (w3.heap.size + 1) (u32s cubes)) (w.heap.size + 1 + 1) 26 (u32s z8) :=
    (((hR3.alloc _).alloc _).putApart (by omega) _).putApart (by omega) _
  have hA5 : Row ((((w3.alloc (.cells (u32s z64) 46)).alloc (.cells (u32s z64) 46)).setRow w3.heap.size (u32s ws)).setRow (w3.heap.size + 1) (u32s cubes)) w3.heap.size 46 (u32s ws) :=
    (hN.put (u32s ws)).putApart (by omega) _
  have hA6 : Row ((((w3.alloc (.cells (u32s z64) 46)).alloc (.cells (u32s z64) 46)).setRow w3.heap.size (u32s ws)).setRow (w3.heap.size + 1) (u32s cubes)) (w3.heap.size + 1) 46 (u32s cubes) :=
    hN2'.put (u32s cubes)
  have hAB : Below w.heap.size w ((((w3.alloc (.cells (u32s z64) 46)).alloc (.cells (u32s z64) 46)).setRow w3.heap.size (u32s ws)).setRow (w3.heap.size + 1) (u32s cubes)) :=
    below_setRow (below_setRow ((hB33.alloc (by omega) _).alloc (by simp; omega) _) (by omega) _) (by omega) _
  have hAs : ((((w3.alloc (.cells (u32s z64) 46)).alloc (.cells (u32s z64) 46)).setRow w3.heap.size (u32s ws)).setRow (w3.heap.size + 1) (u32s cubes)).heap.size = w3.heap.size + 1 + 1 := by simp
  go_upto_region 2 with (first | ((with_reducible refine wpList_storeRow (op := ⟨none, .store 46 (.tmp 5) (.tmp 15), _, _, _, none⟩) rfl 46 (.tmp 5) (.tmp 15) rfl w3.heap.size ?_ (cs := u32s ws) ?_ hN HI.out HO.out H1.out ?_); (rfl; rfl)) | ((with_reducible refine wpList_storeRow (op := ⟨none, .store 46 (.tmp 6) (.tmp 16), _, _, _, none⟩) rfl 46 (.tmp 6) (.tmp 16) rfl (w3.heap.size + 1) ?_ (cs := u32s cubes) ?_ hN2' HI2.out HO2.out H2.out ?_); (rfl; rfl)))
  generalize ((((w3.alloc (.cells (u32s z64) 46)).alloc (.cells (u32s z64) 46)).setRow w3.heap.size (u32s ws)).setRow (w3.heap.size + 1) (u32s cubes)) = w4 at *
  have HS4 := Lib.hid hAs
  clear hN hN2 hN2' hR1 hR3 hB33 hAs HO HO2 H1 H2
  generalize w3.heap.size = n3 at *
  have hX : Row (w4.alloc (.cells (u32s z8) 26)) w4.heap.size 26 (u32s z8) := Row.new _ _ _
  have hXI : Hid ((Tryd.prog.info? 26).map (·.size) = some (u32s hs).size) := Lib.hid (by rw [size26, u32s_size, HH.out])
  have hXO : Hid ((u32s z8).size = (u32s hs).size) := Lib.hid (by rw [u32s_size, u32s_size, HH.out]; rfl)
  have hX1 : Hid ((u32s hs).all (·.oneCell') = true) := Lib.hid (u32s_one hs)
  go_wp2_with (first | ((with_reducible refine wpList_loadRow (op := ⟨some 17, .load 26 (.tmp 2), _, _, _, none⟩) rfl 26 (.tmp 2) rfl w.heap.size ?_ hA Tryd.underlying26 rfl hXI.out ?_); rfl) | ((with_reducible refine wpList_storeRow (op := ⟨none, .store 26 (.tmp 7) (.tmp 17), _, _, _, none⟩) rfl 26 (.tmp 7) (.tmp 17) rfl w4.heap.size ?_ (cs := u32s hs) ?_ hX hXI.out hXO.out hX1.out ?_); (rfl; rfl)))
  have hM : Mem w ((w4.alloc (.cells (u32s z8) 26)).setRow w4.heap.size (u32s hs)) n3 hs ws hs := by
    have h4 := HS4.out
    refine ⟨below_setRow (hAB.alloc (by omega) _) (by omega) _, (hA.alloc _).putApart (by omega) _, (hA4.alloc _).putApart (by omega) _, (hA5.alloc _).putApart (by omega) _, (hA6.alloc _).putApart (by omega) _, ?_⟩
    rw [← h4]
    exact hX.put _
  rw [HS4.out] at hM ⊢
  generalize (w4.alloc (.cells (u32s z8) 26)).setRow (n3 + 1 + 1) (u32s hs) = w5 at *
  clear hA hA4 hA5 hA6 hAB hX HS4
  have hok := St.of_ok HW.out
  have hlo := St.list_of HH.out
  obtain ⟨s, hs9⟩ : ∃ s, s = St.of hs := ⟨_, rfl⟩
  rw [← hs9] at hok hlo HY
  clear hs9
  have hM : Mem w w5 n3 hs ws s.list := by rw [hlo]; exact hM
  clear hlo
  go_loopw [8] (fun i wr => ∃ n : Nat, n ≤ 64 ∧ i = .int .i64 n ∧ Mem w wr n3 hs ws (rnds ws s n).list) (fun i _ => 64 - (intOf i).toNat)
  case atStart => exact ⟨0, by omega, rfl, hM⟩
  case round =>
    clear hM
    obtain ⟨n, hn, rfl, hM⟩ := hrel
    have hro := rnds_ok ws hok n
    by_cases hlt : n < 64
    · have hd : decide ((n : Int) < 64) = true := by simp; omega
      have hb64 : (n : Int) < 64 := by omega
      have hn0 : (0 : Int) ≤ (n : Int) := by omega
      have HN := Lib.hid (show rnds ws s (n + 1) = rnd (cubes.getD n 0) (ws.getD n 0) (rnds ws s n) from rfl)
      have hH := hM.held hlt hwl
      have lk := cubes_words.at n
      have lw := hww.at n
      generalize cubes.getD n 0 = k at *
      generalize ws.getD n 0 = wv at *
      generalize rnds ws s n = r at *
      have e1 := great_bits r.e 6 11 25 hro.e (by omega) (by omega) (by omega)
      have e0 := great_bits r.a 2 13 22 hro.a (by omega) (by omega) (by omega)
      have ec := choose_bits r.e r.f r.g hro.e hro.f hro.g _ rfl
      have em := major_bits r.a r.b r.c hro.a hro.b hro.c
      have l1 := great1_lt hro.e
      have l0 := great0_lt hro.a
      have lc := choose_lt (f := r.f) (g := r.g) hro.e
      have lm := major_lt (c := r.c) hro.a hro.b
      have o1 : one k wv r = (r.h + great1 r.e + choose r.e r.f r.g + k + wv) % 4294967296 := rfl
      have oa : (rnd k wv r).a = (one k wv r + great0 r.a + major r.a r.b r.c) % 4294967296 := rfl
      have oe : (rnd k wv r).e = (r.d + one k wv r) % 4294967296 := rfl
      have ol : (rnd k wv r).list = [(rnd k wv r).a, r.a, r.b, r.c, (rnd k wv r).e, r.e, r.f, r.g] := rfl
      change _ = ((great1 r.e : Nat) : Int) at e1
      change _ = ((great0 r.a : Nat) : Int) at e0
      generalize great1 r.e = s1 at *
      generalize great0 r.a = s0 at *
      generalize choose r.e r.f r.g = ch at *
      generalize major r.a r.b r.c = mj at *
      generalize one k wv r = t1 at *
      obtain ⟨ne, hne⟩ : ∃ p, p = 4294967295 - r.e := ⟨_, rfl⟩
      have le9 := hro.e
      have en : IntKind.u32.wrap (4294967295 - (r.e : Int)) = (ne : Int) := by rw [IntKind.wrap_u32']; omega
      rw [← hne] at ec
      obtain ⟨p1, hp1⟩ : ∃ p, p = (r.h + s1) % 4294967296 := ⟨_, rfl⟩
      obtain ⟨p2, hp2⟩ : ∃ p, p = (p1 + ch) % 4294967296 := ⟨_, rfl⟩
      obtain ⟨p3, hp3⟩ : ∃ p, p = (p2 + k) % 4294967296 := ⟨_, rfl⟩
      obtain ⟨q1, hq1⟩ : ∃ p, p = (s0 + mj) % 4294967296 := ⟨_, rfl⟩
      obtain ⟨a', ha'⟩ : ∃ p, p = (rnd k wv r).a := ⟨_, rfl⟩
      obtain ⟨e', he'⟩ : ∃ p, p = (rnd k wv r).e := ⟨_, rfl⟩
      rw [← ha'] at oa ol
      rw [← he'] at oe ol
      have y1 : IntKind.u32.wrap ((r.h : Int) + (s1 : Int)) = (p1 : Int) := by rw [IntKind.wrap_u32']; omega
      have y2 : IntKind.u32.wrap ((p1 : Int) + (ch : Int)) = (p2 : Int) := by rw [IntKind.wrap_u32']; omega
      have y3 : IntKind.u32.wrap ((p2 : Int) + (k : Int)) = (p3 : Int) := by rw [IntKind.wrap_u32']; omega
      have y4 : IntKind.u32.wrap ((p3 : Int) + (wv : Int)) = (t1 : Int) := by rw [IntKind.wrap_u32']; omega
      have y5 : IntKind.u32.wrap ((s0 : Int) + (mj : Int)) = (q1 : Int) := by rw [IntKind.wrap_u32']; omega
      have y6 : ((t1 : Int) + (q1 : Int)) % 4294967296 = (a' : Int) := by omega
      have y7 : ((r.d : Int) + (t1 : Int)) % 4294967296 = (e' : Int) := by omega
      have HL := Lib.hid ol
      have la := hro.a
      have z6 : ∀ W, Calls Tryd.prog 27 #[.int .u32 (r.e : Int), .int .i64 6] W fun e w' => e = .returned (.int .u32 ((rot r.e 6 : Nat) : Int)) ∧ w' = W := fun W => turn_q 6 6 hro.e rfl (by omega) W
      have z11 : ∀ W, Calls Tryd.prog 27 #[.int .u32 (r.e : Int), .int .i64 11] W fun e w' => e = .returned (.int .u32 ((rot r.e 11 : Nat) : Int)) ∧ w' = W := fun W => turn_q 11 11 hro.e rfl (by omega) W
      have z25 : ∀ W, Calls Tryd.prog 27 #[.int .u32 (r.e : Int), .int .i64 25] W fun e w' => e = .returned (.int .u32 ((rot r.e 25 : Nat) : Int)) ∧ w' = W := fun W => turn_q 25 25 hro.e rfl (by omega) W
      have z2 : ∀ W, Calls Tryd.prog 27 #[.int .u32 (r.a : Int), .int .i64 2] W fun e w' => e = .returned (.int .u32 ((rot r.a 2 : Nat) : Int)) ∧ w' = W := fun W => turn_q 2 2 hro.a rfl (by omega) W
      have z13 : ∀ W, Calls Tryd.prog 27 #[.int .u32 (r.a : Int), .int .i64 13] W fun e w' => e = .returned (.int .u32 ((rot r.a 13 : Nat) : Int)) ∧ w' = W := fun W => turn_q 13 13 hro.a rfl (by omega) W
      have z22 : ∀ W, Calls Tryd.prog 27 #[.int .u32 (r.a : Int), .int .i64 22] W fun e w' => e = .returned (.int .u32 ((rot r.a 22 : Nat) : Int)) ∧ w' = W := fun W => turn_q 22 22 hro.a rfl (by omega) W
      clear o1 oa oe ol hp1 hp2 hp3 hq1 ha' he' hne
      obtain ⟨ca, cb, cc, cd, ce, cf, cg, ch', ck, cw⟩ := hH
      go_upto_region 6 with (fail)
      go_quiet (fail)
      replace hM := hM.drewN nq
      replace ca : (wr.drewN nq).cell? _ = _ := ca
      replace cb : (wr.drewN nq).cell? _ = _ := cb
      replace cc : (wr.drewN nq).cell? _ = _ := cc
      replace cd : (wr.drewN nq).cell? _ = _ := cd
      replace ce : (wr.drewN nq).cell? _ = _ := ce
      replace cf : (wr.drewN nq).cell? _ = _ := cf
      replace cg : (wr.drewN nq).cell? _ = _ := cg
      replace ch' : (wr.drewN nq).cell? _ = _ := ch'
      replace ck : (wr.drewN nq).cell? _ = _ := ck
      replace cw : (wr.drewN nq).cell? _ = _ := cw
      generalize wr.drewN nq = wx at *
      go_upto_region 7 with (fail)
      go_quiet ((first | (go_at_call 27; with_reducible exact Calls.quiet_of_same (z6 _)) | (go_at_call 27; with_reducible exact Calls.quiet_of_same (z11 _)) | (go_at_call 27; with_reducible exact Calls.quiet_of_same (z25 _))))
      replace hM := hM.drewN nq
      replace ca : (wx.drewN nq).cell? _ = _ := ca
      replace cb : (wx.drewN nq).cell? _ = _ := cb
      replace cc : (wx.drewN nq).cell? _ = _ := cc
      replace cd : (wx.drewN nq).cell? _ = _ := cd
      replace ce : (wx.drewN nq).cell? _ = _ := ce
      replace cf : (wx.drewN nq).cell? _ = _ := cf
      replace cg : (wx.drewN nq).cell? _ = _ := cg
      replace ch' : (wx.drewN nq).cell? _ = _ := ch'
      replace ck : (wx.drewN nq).cell? _ = _ := ck
      replace cw : (wx.drewN nq).cell? _ = _ := cw
      generalize wx.drewN nq = wy at *
      go_upto_region 8 with (fail)
      go_quiet ((first | (go_at_call 27; with_reducible exact Calls.quiet_of_same (z2 _)) | (go_at_call 27; with_reducible exact Calls.quiet_of_same (z13 _)) | (go_at_call 27; with_reducible exact Calls.quiet_of_same (z22 _))))
      replace hM := hM.drewN nq
      replace ca : (wy.drewN nq).cell? _ = _ := ca
      replace cb : (wy.drewN nq).cell? _ = _ := cb
      replace cc : (wy.drewN nq).cell? _ = _ := cc
      replace cd : (wy.drewN nq).cell? _ = _ := cd
      replace ce : (wy.drewN nq).cell? _ = _ := ce
      replace cf : (wy.drewN nq).cell? _ = _ := cf
      replace cg : (wy.drewN nq).cell? _ = _ := cg
      replace ch' : (wy.drewN nq).cell? _ = _ := ch'
      replace ck : (wy.drewN nq).cell? _ = _ := ck
      replace cw : (wy.drewN nq).cell? _ = _ := cw
      generalize wy.drewN nq = wz at *
      have hp := hM.put hsz3 (rnd k wv r).list
      rw [HL.out] at hp
      have hI8 : Hid ((Tryd.prog.info? 26).map (·.size) = some (u32s [a', r.a, r.b, r.c, e', r.e, r.f, r.g]).size) := Lib.hid (by rw [size26, u32s_size]; rfl)
      have hO8 : Hid ((u32s r.list).size = (u32s [a', r.a, r.b, r.c, e', r.e, r.f, r.g]).size) := Lib.hid (by rw [u32s_size, u32s_size]; rfl)
      have h18 : Hid ((u32s [a', r.a, r.b, r.c, e', r.e, r.f, r.g]).all (·.oneCell') = true) := Lib.hid (u32s_one _)
      have h7 := hM.r7
      go_wp2_with (first | ((with_reducible refine wpList_storeRow (op := ⟨none, .store 26 (.tmp 7) (.tmp 99), _, _, _, none⟩) rfl 26 (.tmp 7) (.tmp 99) rfl (n3 + 1 + 1) ?_ (cs := u32s [a', r.a, r.b, r.c, e', r.e, r.f, r.g]) ?_ h7 hI8.out hO8.out h18.out ?_); (rfl; rfl)))
      go_roundw
      case rel => exact ⟨n + 1, by omega, by go_num, by rw [HN.out, HL.out]; exact hp⟩
      case measure => simp [intOf]; omega
    · have hn9 : n = 64 := by omega
      subst hn9
      clear hn hlt
      rw [show ((64 : Nat) : Int) = 64 from rfl]
      obtain ⟨r, hr⟩ : ∃ r, r = rnds ws s 64 := ⟨_, rfl⟩
      rw [← hr] at hro HY hM
      clear hr
      have hrw := St.list_words hro
      have hrl := St.list_len r
      generalize r.list = v at *
      go_wp2_with fail
      have hM0 : Below w.heap.size w wr ∧ Row wr w.heap.size 26 (u32s (added hs v 0)) ∧ Row wr (w.heap.size + 1 + 1) 26 (u32s z8) ∧ Row wr (n3 + 1 + 1) 26 (u32s v) := ⟨hM.below, hM.r2, hM.r4, hM.r7⟩
      clear hM
      go_loopw [13] (fun i wr => ∃ n : Nat, n ≤ 8 ∧ i = .int .i64 n ∧ Below w.heap.size w wr ∧ Row wr w.heap.size 26 (u32s (added hs v n)) ∧ Row wr (w.heap.size + 1 + 1) 26 (u32s z8) ∧ Row wr (n3 + 1 + 1) 26 (u32s v)) (fun i _ => 8 - (intOf i).toNat)
      case atStart => exact ⟨0, by omega, rfl, hM0⟩
      case round =>
        clear hM0
        obtain ⟨n, hn, rfl, hBB, hR1, hR3, hR7⟩ := hrel
        by_cases hlt : n < 8
        · have hd : decide ((n : Int) < 8) = true := by simp; omega
          have hb8 : (n : Int) < 8 := by omega
          have hn0 : (0 : Int) ≤ (n : Int) := by omega
          have c1 := hR1.word n (by rw [added_len, HH.out]; omega)
          have c7 := hR7.word n (by rw [hrl]; omega)
          have hf := hR1.frozen n
          have HN := Lib.hid (show added hs v (n + 1) = (added hs v n).set n (((added hs v n).getD n 0 + v.getD n 0) % 4294967296) from rfl)
          have la := (added_words HW.out v n).at n
          have lv := hrw.at n
          generalize added hs v n = l at *
          generalize l.getD n 0 = x at *
          generalize v.getD n 0 = y at *
          obtain ⟨z, hz9⟩ : ∃ z, z = (x + y) % 4294967296 := ⟨_, rfl⟩
          have y1 : IntKind.u32.wrap ((x : Int) + (y : Int)) = (z : Int) := by rw [IntKind.wrap_u32']; omega
          rw [← hz9] at HN
          clear hz9
          go_wp2_with fail
          refine wp_region_still_tail 9 (by kernel_rfl) (by kernel_rfl) ?_
          simp only [List.take_succ_cons, List.take_zero, List.drop_succ_cons, List.drop_zero]
          change wpStill _ _ wr.drew (fun a' => wpList _ _ _ _ a' wr.drew) _ _
          replace c1 : wr.drew.cell? _ = _ := c1
          replace c7 : wr.drew.cell? _ = _ := c7
          replace hf : wr.drew.frozen? _ = _ := hf
          replace hBB := hBB.drew
          replace hR1 := hR1.drew
          replace hR3 := hR3.drew
          replace hR7 := hR7.drew
          generalize wr.drew = wd at *
          repeat still_step
          refine wpStill_nil ?_
          go_wp2_with fail
          go_roundw
          case rel => exact ⟨n + 1, by omega, by go_num, hBB.setCell (p := ⟨w.heap.size, n, none⟩) (Nat.le_refl _) _, by rw [HN.out]; exact hR1.set32 n z, hR3.apart (by omega) _ _, hR7.apart (by omega) _ _⟩
          case measure => simp [intOf]; omega
        · have hn9 : n = 8 := by omega
          subst hn9
          clear hn hlt
          rw [← HY.out] at hR1
          have hlen : (block hs b).length = 8 := by rw [block_len, HH.out]
          obtain ⟨ws, hws⟩ : ∃ ws, ws = u32s (block hs b) := ⟨_, rfl⟩
          have hln : 8 = (u32s (block hs b)).size := by rw [u32s_size, hlen]
          have h1 := u32s_one (block hs b)
          rw [← hws] at hR1 hln h1
          have HW9 := Lib.hid hws
          have HI8 := Lib.hid (show (Tryd.prog.info? 26).map (·.size) = some ws.size by rw [size26, hln])
          have HO8 := Lib.hid (show (u32s z8).size = ws.size by rw [← hln]; rfl)
          have H18 := Lib.hid h1
          have hB2 := below_setRow hBB (g := w.heap.size + 1 + 1) (by omega) ws
          have hR := hR3.put ws
          clear hws hln h1
          go_wp2_with (first | ((with_reducible refine wpList_loadRow (op := ⟨some 113, .load 26 (.tmp 2), _, _, _, none⟩) rfl 26 (.tmp 2) rfl w.heap.size ?_ hR1 Tryd.underlying26 rfl HI8.out ?_); rfl) | ((with_reducible refine wpList_storeRow (op := ⟨none, .store 26 (.tmp 4) (.tmp 113), _, _, _, none⟩) rfl 26 (.tmp 4) (.tmp 113) rfl (w.heap.size + 1 + 1) ?_ (cs := ws) ?_ hR3 HI8.out HO8.out H18.out ?_); (rfl; rfl)))
          exact bodyPost_ret (v := .agg ws) (results_row rfl rfl hR Tryd.underlying26 rfl HI8.out) rfl ⟨by rw [HW9.out], hB2⟩

end Go.Proofs.YtidkakjghimimaaDoor.Sha
