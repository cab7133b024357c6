/-
  Package frame, walked: what is got.
-/
import Derived.Test.YthimplhfmamejaaFrameGot
namespace Go.Proofs.Ythimplhfmamejaa.Frame
open Go.RowKit Leb Mem Wire

set_option maxRecDepth 100000 in
set_option maxHeartbeats 1000000 in
theorem Get_any (s : ByteArray) (a : Int) (hs : s.size ≤ 1073741824) (w : World) : Calls Try.prog 14 #[.string s, .int .i64 a] w (FGetEnds s a w) := by
  have k0 := ((((((Blk.new w 9 #[.string s]).alloc (.cells #[.int .i64 a] 3)).alloc (.cells #[.int .i64 0, .string ⟨#[]⟩] 23)).alloc (.cells #[.pointer none, .string ⟨#[]⟩] 47)).alloc (.cells #[.int .i64 0, .string ⟨#[]⟩] 23)).alloc (.cells #[.func (.func 25) #[] #[.pointer (some ⟨w.heap.size + 1, 0, none⟩), .pointer (some ⟨w.heap.size, 0, none⟩)], .func (.func 26) #[] #[.pointer (some ⟨w.heap.size, 0, none⟩), .pointer (some ⟨w.heap.size + 1, 0, none⟩), .pointer (some ⟨w.heap.size + 1 + 1 + 1, 0, none⟩), .pointer (some ⟨w.heap.size + 1 + 1 + 1 + 1, 0, none⟩)], .func (.func 30) #[] #[.pointer (some ⟨w.heap.size + 1 + 1 + 1, 0, none⟩)]] 40))
  have k1 := (((((Blk.new (w.alloc (.cells #[.string s] 9)) 3 #[.int .i64 a]).alloc (.cells #[.int .i64 0, .string ⟨#[]⟩] 23)).alloc (.cells #[.pointer none, .string ⟨#[]⟩] 47)).alloc (.cells #[.int .i64 0, .string ⟨#[]⟩] 23)).alloc (.cells #[.func (.func 25) #[] #[.pointer (some ⟨w.heap.size + 1, 0, none⟩), .pointer (some ⟨w.heap.size, 0, none⟩)], .func (.func 26) #[] #[.pointer (some ⟨w.heap.size, 0, none⟩), .pointer (some ⟨w.heap.size + 1, 0, none⟩), .pointer (some ⟨w.heap.size + 1 + 1 + 1, 0, none⟩), .pointer (some ⟨w.heap.size + 1 + 1 + 1 + 1, 0, none⟩)], .func (.func 30) #[] #[.pointer (some ⟨w.heap.size + 1 + 1 + 1, 0, none⟩)]] 40))
  have k2 := ((((Blk.new ((w.alloc (.cells #[.string s] 9)).alloc (.cells #[.int .i64 a] 3)) 23 #[.int .i64 0, .string ⟨#[]⟩]).alloc (.cells #[.pointer none, .string ⟨#[]⟩] 47)).alloc (.cells #[.int .i64 0, .string ⟨#[]⟩] 23)).alloc (.cells #[.func (.func 25) #[] #[.pointer (some ⟨w.heap.size + 1, 0, none⟩), .pointer (some ⟨w.heap.size, 0, none⟩)], .func (.func 26) #[] #[.pointer (some ⟨w.heap.size, 0, none⟩), .pointer (some ⟨w.heap.size + 1, 0, none⟩), .pointer (some ⟨w.heap.size + 1 + 1 + 1, 0, none⟩), .pointer (some ⟨w.heap.size + 1 + 1 + 1 + 1, 0, none⟩)], .func (.func 30) #[] #[.pointer (some ⟨w.heap.size + 1 + 1 + 1, 0, none⟩)]] 40))
  have k3 := (((Blk.new (((w.alloc (.cells #[.string s] 9)).alloc (.cells #[.int .i64 a] 3)).alloc (.cells #[.int .i64 0, .string ⟨#[]⟩] 23)) 47 #[.pointer none, .string ⟨#[]⟩]).alloc (.cells #[.int .i64 0, .string ⟨#[]⟩] 23)).alloc (.cells #[.func (.func 25) #[] #[.pointer (some ⟨w.heap.size + 1, 0, none⟩), .pointer (some ⟨w.heap.size, 0, none⟩)], .func (.func 26) #[] #[.pointer (some ⟨w.heap.size, 0, none⟩), .pointer (some ⟨w.heap.size + 1, 0, none⟩), .pointer (some ⟨w.heap.size + 1 + 1 + 1, 0, none⟩), .pointer (some ⟨w.heap.size + 1 + 1 + 1 + 1, 0, none⟩)], .func (.func 30) #[] #[.pointer (some ⟨w.heap.size + 1 + 1 + 1, 0, none⟩)]] 40))
  have k4 := ((Blk.new ((((w.alloc (.cells #[.string s] 9)).alloc (.cells #[.int .i64 a] 3)).alloc (.cells #[.int .i64 0, .string ⟨#[]⟩] 23)).alloc (.cells #[.pointer none, .string ⟨#[]⟩] 47)) 23 #[.int .i64 0, .string ⟨#[]⟩]).alloc (.cells #[.func (.func 25) #[] #[.pointer (some ⟨w.heap.size + 1, 0, none⟩), .pointer (some ⟨w.heap.size, 0, none⟩)], .func (.func 26) #[] #[.pointer (some ⟨w.heap.size, 0, none⟩), .pointer (some ⟨w.heap.size + 1, 0, none⟩), .pointer (some ⟨w.heap.size + 1 + 1 + 1, 0, none⟩), .pointer (some ⟨w.heap.size + 1 + 1 + 1 + 1, 0, none⟩)], .func (.func 30) #[] #[.pointer (some ⟨w.heap.size + 1 + 1 + 1, 0, none⟩)]] 40))
  have k5 := (Blk.new (((((w.alloc (.cells #[.string s] 9)).alloc (.cells #[.int .i64 a] 3)).alloc (.cells #[.int .i64 0, .string ⟨#[]⟩] 23)).alloc (.cells #[.pointer none, .string ⟨#[]⟩] 47)).alloc (.cells #[.int .i64 0, .string ⟨#[]⟩] 23)) 40 #[.func (.func 25) #[] #[.pointer (some ⟨w.heap.size + 1, 0, none⟩), .pointer (some ⟨w.heap.size, 0, none⟩)], .func (.func 26) #[] #[.pointer (some ⟨w.heap.size, 0, none⟩), .pointer (some ⟨w.heap.size + 1, 0, none⟩), .pointer (some ⟨w.heap.size + 1 + 1 + 1, 0, none⟩), .pointer (some ⟨w.heap.size + 1 + 1 + 1 + 1, 0, none⟩)], .func (.func 30) #[] #[.pointer (some ⟨w.heap.size + 1 + 1 + 1, 0, none⟩)]])
  have hB0 : Below w.heap.size w _ := (((((((Below.refl w.heap.size w).alloc (by simp <;> omega) (.cells #[.string s] 9)).alloc (by simp <;> omega) (.cells #[.int .i64 a] 3)).alloc (by simp <;> omega) (.cells #[.int .i64 0, .string ⟨#[]⟩] 23)).alloc (by simp <;> omega) (.cells #[.pointer none, .string ⟨#[]⟩] 47)).alloc (by simp <;> omega) (.cells #[.int .i64 0, .string ⟨#[]⟩] 23)).alloc (by simp <;> omega) (.cells #[.func (.func 25) #[] #[.pointer (some ⟨w.heap.size + 1, 0, none⟩), .pointer (some ⟨w.heap.size, 0, none⟩)], .func (.func 26) #[] #[.pointer (some ⟨w.heap.size, 0, none⟩), .pointer (some ⟨w.heap.size + 1, 0, none⟩), .pointer (some ⟨w.heap.size + 1 + 1 + 1, 0, none⟩), .pointer (some ⟨w.heap.size + 1 + 1 + 1 + 1, 0, none⟩)], .func (.func 30) #[] #[.pointer (some ⟨w.heap.size + 1 + 1 + 1, 0, none⟩)]] 40))
  simp only [World.size_alloc] at k0 k1 k2 k3 k4 k5
  have HF := Lib.hid (get_first s a hs _ _ _ _ _ 3 _ _ _ _ _ k0 k1 k3 k4 k5 (by omega) (by omega) (by omega) (by omega) (by omega) (by omega) (by omega))
  have hB1 : Below w.heap.size w ((((((w.alloc (.cells #[.string s] 9)).alloc (.cells #[.int .i64 a] 3)).alloc (.cells #[.int .i64 0, .string ⟨#[]⟩] 23)).alloc (.cells #[.pointer none, .string ⟨#[]⟩] 47)).alloc (.cells #[.int .i64 0, .string ⟨#[]⟩] 23)).alloc (.cells #[.func (.func 25) #[] #[.pointer (some ⟨w.heap.size + 1, 0, none⟩), .pointer (some ⟨w.heap.size, 0, none⟩)], .func (.func 26) #[] #[.pointer (some ⟨w.heap.size, 0, none⟩), .pointer (some ⟨w.heap.size + 1, 0, none⟩), .pointer (some ⟨w.heap.size + 1 + 1 + 1, 0, none⟩), .pointer (some ⟨w.heap.size + 1 + 1 + 1 + 1, 0, none⟩)], .func (.func 30) #[] #[.pointer (some ⟨w.heap.size + 1 + 1 + 1, 0, none⟩)]] 40)) := hB0
  have hlt : w.heap.size + 1 + 1 + 1 + 1 < ((((((w.alloc (.cells #[.string s] 9)).alloc (.cells #[.int .i64 a] 3)).alloc (.cells #[.int .i64 0, .string ⟨#[]⟩] 23)).alloc (.cells #[.pointer none, .string ⟨#[]⟩] 47)).alloc (.cells #[.int .i64 0, .string ⟨#[]⟩] 23)).alloc (.cells #[.func (.func 25) #[] #[.pointer (some ⟨w.heap.size + 1, 0, none⟩), .pointer (some ⟨w.heap.size, 0, none⟩)], .func (.func 26) #[] #[.pointer (some ⟨w.heap.size, 0, none⟩), .pointer (some ⟨w.heap.size + 1, 0, none⟩), .pointer (some ⟨w.heap.size + 1 + 1 + 1, 0, none⟩), .pointer (some ⟨w.heap.size + 1 + 1 + 1 + 1, 0, none⟩)], .func (.func 30) #[] #[.pointer (some ⟨w.heap.size + 1 + 1 + 1, 0, none⟩)]] 40)).heap.size := k4.lt
  clear hB0
  by_cases hz : (fget s.data.toList a).2.2 = 0
  · rw [hz] at HF
    go_enter Try.func14, Try.ntmps14
    go_wp2_with fail
    generalize ((((((w.alloc (.cells #[.string s] 9)).alloc (.cells #[.int .i64 a] 3)).alloc (.cells #[.int .i64 0, .string ⟨#[]⟩] 23)).alloc (.cells #[.pointer none, .string ⟨#[]⟩] 47)).alloc (.cells #[.int .i64 0, .string ⟨#[]⟩] 23)).alloc (.cells #[.func (.func 25) #[] #[.pointer (some ⟨w.heap.size + 1, 0, none⟩), .pointer (some ⟨w.heap.size, 0, none⟩)], .func (.func 26) #[] #[.pointer (some ⟨w.heap.size, 0, none⟩), .pointer (some ⟨w.heap.size + 1, 0, none⟩), .pointer (some ⟨w.heap.size + 1 + 1 + 1, 0, none⟩), .pointer (some ⟨w.heap.size + 1 + 1 + 1 + 1, 0, none⟩)], .func (.func 30) #[] #[.pointer (some ⟨w.heap.size + 1 + 1 + 1, 0, none⟩)]] 40)) = W at *
    refine HF.out.mono ?_
    rintro e w1 ⟨rfl, hk, hg⟩
    obtain ⟨p, R, hgot, hR, hfg⟩ := hg (by trivial)
    have r2 := k2.kept hk (by omega)
    have hB2 : Below w.heap.size w w1 := hB1.trans (hk.to_below (Nat.le_of_lt (by omega)) (by rintro k (rfl | rfl) <;> omega))
    clear HF k0 k1 k2 k3 k4 k5 hg hk hB1
    have hRn : R ≠ w.heap.size + 1 + 1 := by omega
    obtain ⟨q0, q1, q2, q3, q4⟩ := hgot
    obtain ⟨⟨t, d⟩, hd⟩ : ∃ q, (fsec (s.data.toList.drop a.toNat)).1 = q := ⟨_, rfl⟩
    rw [hd] at q3 hfg
    obtain ⟨g1, g2, g3, -⟩ := fget_only s.data.toList a (by rw [hfg])
    rw [hfg] at g2 g3
    simp only at g2 g3
    rw [len_of] at g3
    have hw : IntKind.i64.wrap (a + (p : Int)) = a + (p : Int) := IntWalk.i64_in _ (by omega)
    have HE := Lib.hid hfg
    clear hfg hd hz
    obtain ⟨u, hu⟩ : ∃ u, s.extract a.toNat s.size = u := ⟨_, rfl⟩
    rw [hu] at q2 q4
    have q1 : Blk w1 (w.heap.size + 1) 3 #[.int .i64 a] := by have := q1; rw [show ((a.toNat : Nat) : Int) = a by omega] at this; exact this
    go_wp2_with fail
    obtain ⟨c0, c1⟩ := q3.two
    obtain ⟨c4, c5⟩ := q2.two
    obtain ⟨c6, c7, -⟩ := q4.three
    have c2 := q1.cell 0
    simp only [List.getElem?_toArray, List.getElem?_cons_zero] at c2
    have HA := Lib.hid (fun W => At_any u (p : Int) W)
    have l3 : w.heap.size + 1 + 1 + 1 + 1 < w1.drew.heap.size := q3.lt
    have l1 : w.heap.size + 1 < w1.drew.heap.size := q1.lt
    have l2 : w.heap.size + 1 + 1 + 1 < w1.drew.heap.size := q2.lt
    have l4 : R < w1.drew.heap.size := Blk.lt q4
    have rD : Blk w1.drew (w.heap.size + 1 + 1) 23 _ := r2
    have hBD := hB2.drew
    have c0 : w1.drew.cell? ⟨w.heap.size + 1 + 1 + 1 + 1, 0, none⟩ = some (.int .i64 t) := c0
    have c1 : w1.drew.cell? ⟨w.heap.size + 1 + 1 + 1 + 1, 1, none⟩ = some (.string (str d)) := c1
    have c2 : w1.drew.cell? ⟨w.heap.size + 1, 0, none⟩ = some (.int .i64 a) := c2
    have c4 : w1.drew.cell? ⟨w.heap.size + 1 + 1 + 1, 0, none⟩ = some (.pointer (some ⟨R, 0, none⟩)) := c4
    have c6 : w1.drew.cell? ⟨R, 0, none⟩ = some (.string u) := c6
    have c7 : w1.drew.cell? ⟨R, 1, none⟩ = some (.int .i64 p) := c7
    clear q1 q2 q3 q4 r2 hB2
    have a0 : ∀ j i, (⟨w.heap.size + 1 + 1, j, none⟩ : Addr) ≠ ⟨w.heap.size + 1 + 1 + 1 + 1, i, none⟩ := fun j i e => by have := congrArg Addr.block e; simp at this
    have a1 : ∀ j, (⟨w.heap.size + 1 + 1, j, none⟩ : Addr) ≠ ⟨w.heap.size + 1, 0, none⟩ := fun j e => by have := congrArg Addr.block e; simp at this
    have a2 : ∀ j, (⟨w.heap.size + 1 + 1, j, none⟩ : Addr) ≠ ⟨w.heap.size + 1 + 1 + 1, 0, none⟩ := fun j e => by have := congrArg Addr.block e; simp at this
    have a3 : ∀ j i, (⟨w.heap.size + 1 + 1, j, none⟩ : Addr) ≠ ⟨R, i, none⟩ := fun j i e => hRn (congrArg Addr.block e).symm
    obtain ⟨y0, y1⟩ := rD.two
    have yf := rD.frozen
    go_region_held3 (fun w' => w'.cell? ⟨w.heap.size + 1 + 1 + 1 + 1, 0, none⟩ = some (.int .i64 t) ∧ w'.cell? ⟨w.heap.size + 1 + 1 + 1 + 1, 1, none⟩ = some (.string (str d)) ∧ w'.cell? ⟨w.heap.size + 1, 0, none⟩ = some (.int .i64 a) ∧ w'.cell? ⟨w.heap.size + 1 + 1 + 1, 0, none⟩ = some (.pointer (some ⟨R, 0, none⟩)) ∧ w'.cell? ⟨R, 0, none⟩ = some (.string u) ∧ w'.cell? ⟨R, 1, none⟩ = some (.int .i64 p))
      (first | exact ⟨c0, c1, c2, c4, c6, c7⟩ | (exact ⟨by (repeat rw [World.cell?_setCell_other _ _ _ _ (a0 _ _)]); assumption, by (repeat rw [World.cell?_setCell_other _ _ _ _ (a0 _ _)]); assumption, by (repeat rw [World.cell?_setCell_other _ _ _ _ (a1 _)]); assumption, by (repeat rw [World.cell?_setCell_other _ _ _ _ (a2 _)]); assumption, by (repeat rw [World.cell?_setCell_other _ _ _ _ (a3 _ _)]); assumption, by (repeat rw [World.cell?_setCell_other _ _ _ _ (a3 _ _)]); assumption⟩) | go_keep)
      (first
        | (go_at_call 33; (with_reducible refine (HA.out _).mono ?_); rintro e w2 ⟨rfl, hb2⟩; have hBD := hBD.trans (hb2.mono hBD.size); have c0 := (hb2.cell (p := ⟨w.heap.size + 1 + 1 + 1 + 1, 0, none⟩) l3).trans c0; have c1 := (hb2.cell (p := ⟨w.heap.size + 1 + 1 + 1 + 1, 1, none⟩) l3).trans c1; have c2 := (hb2.cell (p := ⟨w.heap.size + 1, 0, none⟩) l1).trans c2; have c4 := (hb2.cell (p := ⟨w.heap.size + 1 + 1 + 1, 0, none⟩) l2).trans c4; have c6 := (hb2.cell (p := ⟨R, 0, none⟩) l4).trans c6; have c7 := (hb2.cell (p := ⟨R, 1, none⟩) l4).trans c7; have rD := rD.below hb2 rD.lt; have yf := rD.frozen; obtain ⟨y0, y1⟩ := rD.two))
    all_goals go_wp2_with fail
    all_goals refine bodyPost_ret (v := .tuple #[.agg #[.int .i64 t, .string (str d)], .int .i64 (a + (p : Int)), .int .i64 0]) (by simp [results, Try.results14, go_sem, y0, y1]) rfl ?_
    all_goals refine FGetEnds.mk HE.out rfl ?_
    all_goals exact ((hBD.setCell (p := ⟨w.heap.size + 1 + 1, 0, none⟩) (by show w.heap.size ≤ w.heap.size + 1 + 1; omega) _).setCell (p := ⟨w.heap.size + 1 + 1, 1, none⟩) (by show w.heap.size ≤ w.heap.size + 1 + 1; omega) _)
  · obtain ⟨h1, h2⟩ := fget_err s.data.toList a hz
    obtain ⟨⟨x, b, er⟩, hl⟩ : ∃ q, fget s.data.toList a = q := ⟨_, rfl⟩
    rw [hl] at h1 h2 hz HF
    simp only at h1 h2 hz HF
    subst h1
    have h2 := h2.symm
    subst h2
    have HE := Lib.hid hl
    have e1 : (er != 0) = true := by simpa using hz
    clear hl hz
    go_enter Try.func14, Try.ntmps14
    go_wp2_with fail
    generalize ((((((w.alloc (.cells #[.string s] 9)).alloc (.cells #[.int .i64 a] 3)).alloc (.cells #[.int .i64 0, .string ⟨#[]⟩] 23)).alloc (.cells #[.pointer none, .string ⟨#[]⟩] 47)).alloc (.cells #[.int .i64 0, .string ⟨#[]⟩] 23)).alloc (.cells #[.func (.func 25) #[] #[.pointer (some ⟨w.heap.size + 1, 0, none⟩), .pointer (some ⟨w.heap.size, 0, none⟩)], .func (.func 26) #[] #[.pointer (some ⟨w.heap.size, 0, none⟩), .pointer (some ⟨w.heap.size + 1, 0, none⟩), .pointer (some ⟨w.heap.size + 1 + 1 + 1, 0, none⟩), .pointer (some ⟨w.heap.size + 1 + 1 + 1 + 1, 0, none⟩)], .func (.func 30) #[] #[.pointer (some ⟨w.heap.size + 1 + 1 + 1, 0, none⟩)]] 40)) = W at *
    refine HF.out.mono ?_
    rintro e w1 ⟨rfl, hk, -⟩
    have r1 := k1.kept hk (by omega)
    have r2 := k2.kept hk (by omega)
    have hB2 : Below w.heap.size w w1 := hB1.trans (hk.to_below (Nat.le_of_lt (by omega)) (by rintro k (rfl | rfl) <;> omega))
    clear HF k0 k1 k2 k3 k4 k5 hk hB1
    have c0 := r1.cell 0
    simp only [List.getElem?_toArray, List.getElem?_cons_zero] at c0
    obtain ⟨y0, y1⟩ := r2.two
    have yf := r2.frozen
    go_wp2_with fail
    go_region
    all_goals go_wp2_with fail
    all_goals refine bodyPost_ret (v := .tuple #[.agg #[.int .i64 0, .string ⟨#[]⟩], .int .i64 a, .int .i64 er]) (by simp [results, Try.results14, go_sem, y0, y1]) rfl ?_
    all_goals refine FGetEnds.mk HE.out rfl ?_
    all_goals exact (((hB2.setCell (p := ⟨w.heap.size + 1 + 1, 0, none⟩) (by show w.heap.size ≤ w.heap.size + 1 + 1; omega) _).setCell (p := ⟨w.heap.size + 1 + 1, 1, none⟩) (by show w.heap.size ≤ w.heap.size + 1 + 1; omega) _)).drew

end Go.Proofs.Ythimplhfmamejaa.Frame
