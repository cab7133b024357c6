/-
  Package frame, walked: a frame is read, as the plain facts say.
-/
import Derived.Test.YthimplhfmamejaaFrameSec
namespace Go.Proofs.Ythimplhfmamejaa.Frame
open Go.RowKit Leb Mem Wire

theorem str_strB (l : List UInt8) : strB l = str l := rfl

section
variable {a : Nat} {u : ByteArray} {w : World}
/-- A reader that is wrong reads nothing. -/
theorem raw_was (hs : u.size ≤ 1073741824) {p : Nat} {er : Int} (he : er ≠ 0) (hp : p ≤ u.size) (m : Int) (W : World) (h : Rd W a u p er) :
    Calls Try.prog 39 #[.pointer (some ⟨a, 0, none⟩), .int .i64 m] W (fun e w' => e = .returned (.string ⟨#[]⟩) ∧ Rd w' a u p er ∧ Kept (· = a) W w') :=
  (RRaw_any a u p er m W hs hp h).mono (fun _ _ h => h.was he)
theorem count_was (hs : u.size ≤ 1073741824) {p : Nat} {er : Int} (he : er ≠ 0) (m : Int) (hm : m ≤ 9223372036854775807) (W : World) (h : Rd W a u p er) :
    Calls Try.prog 40 #[.pointer (some ⟨a, 0, none⟩), .int .i64 m] W (fun e w' => e = .returned (.int .i64 0) ∧ Rd w' a u p er ∧ Kept (· = a) W w') :=
  (RCount_any a u p er m W hs hm h).mono (fun _ _ h => h.was he)
theorem Rd.same {W : World} {p er : Int} (h : Rd w a u p er) (hh : W.heap[a]? = w.heap[a]?) : Rd W a u p er := hh.trans h

set_option maxRecDepth 100000 in
theorem section_any (v : ByteArray) (hs : u.size ≤ 1073741824) (h : Rd w a u 0 0) :
    Calls Try.prog 28 #[.agg #[.pointer (some ⟨a, 0, none⟩), .string v]] w fun e w' =>
      e = .returned (.agg #[.int .i64 (fsec u.data.toList).1.1, .string (str (fsec u.data.toList).1.2)]) ∧ Rd w' a u (fsec u.data.toList).2.1 (fsec u.data.toList).2.2 ∧ Kept (· = a) w w' := by
  have ha : a < w.heap.size := Blk.lt h
  have hlen := len_of u
  by_cases h0 : u.size = 0
  · have hE : fsec u.data.toList = ((0, []), 0, 2) := by unfold fsec; rw [if_pos (by omega)]
    rw [hE]
    refine section_letters a u v 0 0 ⟨#[]⟩ 0 0 0 0 2 2 2 2 (by omega) (by omega) w ha ?_ ?_ ?_ ?_
    · intro W hW
      refine (Byte_no a u 0 W hs (by rw [h0]; exact Rd.same h hW)).mono ?_
      intro e w' q
      have := q.bad (by omega)
      rw [h0] at this
      exact this
    · intro W hW; exact count_was (p := 0) hs (by omega) _ (by omega) W hW
    · intro W hW; exact raw_was (p := 0) hs (by omega) (by omega) _ W hW
    · intro W hW; exact (raw_was (p := 0) hs (by omega) (by omega) _ W hW).mono (fun _ _ q => ⟨⟨_, q.1⟩, q.2⟩)
  · have hp : 0 < u.size := by omega
    have hb := u[0].toNat_lt
    have hg : u.data.toList.getD 0 0 = u[0] := getD_at u 0 hp
    have hB : ∀ W : World, W.heap[a]? = w.heap[a]? → Calls Try.prog 38 #[.pointer (some ⟨a, 0, none⟩)] W (fun e w' => e = .returned (.int .u8 u[0].toNat) ∧ Rd w' a u 1 0 ∧ Kept (· = a) W w') := by
      intro W hW
      refine (Byte_ok a u 0 0 W hs hp (Rd.same h hW)).mono ?_
      intro e w' q
      exact q.good
    by_cases h1 : (lcount u.data.toList 1 1048576).2.2 ≠ 0
    · have hE : fsec u.data.toList = (((u[0].toNat : Int), []), 1, (lcount u.data.toList 1 1048576).2.2) := by unfold fsec; rw [if_neg (by omega), if_pos h1, hg]
      rw [hE]
      refine section_letters a u v u[0].toNat 0 ⟨#[]⟩ 1 1 1 1 0 (lcount u.data.toList 1 1048576).2.2 (lcount u.data.toList 1 1048576).2.2 (lcount u.data.toList 1 1048576).2.2 (by omega) (by omega) w ha hB ?_ ?_ ?_
      · intro W hW
        refine (RCount_any a u 1 0 1048576 W hs (by omega) hW).mono ?_
        intro e w' q
        exact q.bad h1
      · intro W hW; exact raw_was (p := 1) hs h1 (by omega) _ W hW
      · intro W hW; exact (raw_was (p := 1) hs h1 (by omega) _ W hW).mono (fun _ _ q => ⟨⟨_, q.1⟩, q.2⟩)
    · have h1' : (lcount u.data.toList 1 1048576).2.2 = 0 := by omega
      obtain ⟨-, g2, g3, -, -⟩ := lcount_range _ _ _ h1'
      obtain ⟨⟨n, b, c⟩, hl⟩ : ∃ t, lcount u.data.toList 1 1048576 = t := ⟨_, rfl⟩
      rw [hl] at g2 g3 h1'
      simp only at g2 g3 h1'
      subst h1'
      obtain ⟨q, rfl⟩ := Int.eq_ofNat_of_zero_le (show 0 ≤ b by omega)
      have hC : ∀ W : World, Rd W a u 1 0 → Calls Try.prog 40 #[.pointer (some ⟨a, 0, none⟩), .int .i64 1048576] W (fun e w' => e = .returned (.int .i64 n) ∧ Rd w' a u q 0 ∧ Kept (· = a) W w') := by
        intro W hW
        have := RCount_any a u 1 0 1048576 W hs (by omega) hW
        rw [show ((1 : Nat) : Int) = 1 by rfl, hl] at this
        exact this.mono (fun _ _ q => q.good)
      by_cases h2 : (lraw u.data.toList q n).2.2 ≠ 0
      · have hE : fsec u.data.toList = (((u[0].toNat : Int), []), (q : Int), (lraw u.data.toList q n).2.2) := by unfold fsec; rw [if_neg (by omega), hl, if_neg (by simp), if_pos h2, hg]
        rw [hE]
        refine section_letters a u v u[0].toNat n ⟨#[]⟩ 1 q q q 0 0 (lraw u.data.toList q n).2.2 (lraw u.data.toList q n).2.2 (by omega) (by omega) w ha hB hC ?_ ?_
        · intro W hW; exact (RRaw_any a u q 0 n W hs (by omega) hW).mono (fun _ _ k => k.bad h2)
        · intro W hW; exact (raw_was (p := q) hs h2 (by omega) _ W hW).mono (fun _ _ q => ⟨⟨_, q.1⟩, q.2⟩)
      · obtain ⟨k0, k1, k2⟩ := lraw_yes (l := u.data.toList) (a := q) (n := n) (by omega)
        have hR : ∀ W : World, Rd W a u q 0 → Calls Try.prog 39 #[.pointer (some ⟨a, 0, none⟩), .int .i64 n] W (fun e w' => e = .returned (.string (str (lraw u.data.toList q n).1)) ∧ Rd w' a u ((q + n : Nat) : Int) 0 ∧ Kept (· = a) W w') := by
          intro W hW
          have := RRaw_any a u q 0 n W hs (by omega) hW
          rw [k2] at this ⊢
          exact this.mono (fun _ _ q => q.good)
        by_cases h3 : (lraw u.data.toList ((q + n : Nat) : Int) 4).2.2 ≠ 0
        · have hE : fsec u.data.toList = (((u[0].toNat : Int), (lraw u.data.toList q n).1), ((q + n : Nat) : Int), (lraw u.data.toList ((q + n : Nat) : Int) 4).2.2) := by
            unfold fsec; rw [if_neg (by omega), hl, if_neg (by simp), if_neg h2, k2]; simp only; rw [show (q : Int) + (n : Int) = ((q + n : Nat) : Int) by omega, if_pos h3, hg]
          rw [hE]
          refine section_letters a u v u[0].toNat n _ 1 q ((q + n : Nat) : Int) ((q + n : Nat) : Int) 0 0 0 (lraw u.data.toList ((q + n : Nat) : Int) 4).2.2 (by omega) (by omega) w ha hB hC hR ?_
          intro W hW; exact (RRaw_any a u (q + n) 0 4 W hs (by omega) hW).mono (fun _ _ k => ⟨⟨_, (k.bad h3).1⟩, (k.bad h3).2⟩)
        · have h3' : (lraw u.data.toList ((q + n : Nat) : Int) 4).2.2 = 0 := by omega
          have hE : fsec u.data.toList = (((u[0].toNat : Int), (lraw u.data.toList q n).1), (lraw u.data.toList ((q + n : Nat) : Int) 4).2.1, 0) := by
            unfold fsec; rw [if_neg (by omega), hl, if_neg (by simp), if_neg h2, k2]; simp only; rw [show (q : Int) + (n : Int) = ((q + n : Nat) : Int) by omega, if_neg h3, hg, h3']
          rw [hE]
          refine section_letters a u v u[0].toNat n _ 1 q ((q + n : Nat) : Int) (lraw u.data.toList ((q + n : Nat) : Int) 4).2.1 0 0 0 0 (by omega) (by omega) w ha hB hC hR ?_
          intro W hW
          have := RRaw_any a u (q + n) 0 4 W hs (by omega) hW
          rw [h3'] at this
          exact this.mono (fun _ _ k => ⟨⟨_, k.good.1⟩, k.good.2⟩)
end

/-- The place never leaves the bytes. -/
theorem fsec_range (l : List UInt8) : 0 ≤ (fsec l).2.1 ∧ (fsec l).2.1 ≤ l.length := by
  unfold fsec
  by_cases c0 : l.length = 0
  · rw [if_pos c0]; simp
  rw [if_neg c0]
  by_cases c1 : (lcount l 1 1048576).2.2 ≠ 0
  · rw [if_pos c1]; simp only; omega
  rw [if_neg c1]
  obtain ⟨-, g2, g3, -, -⟩ := lcount_range l 1 1048576 (by omega)
  by_cases c2 : (lraw l (lcount l 1 1048576).2.1 (lcount l 1 1048576).1).2.2 ≠ 0
  · rw [if_pos c2]; simp only; omega
  rw [if_neg c2]
  obtain ⟨k0, k1, k2⟩ := lraw_yes (l := l) (a := (lcount l 1 1048576).2.1) (n := (lcount l 1 1048576).1) (by omega)
  rw [k2]
  simp only
  by_cases c3 : (lraw l ((lcount l 1 1048576).2.1 + (lcount l 1 1048576).1) 4).2.2 ≠ 0
  · rw [if_pos c3]; omega
  · rw [if_neg c3]
    obtain ⟨j0, j1, j2⟩ := lraw_yes (l := l) (a := (lcount l 1 1048576).2.1 + (lcount l 1 1048576).1) (n := 4) (by omega)
    rw [j2]
    simp only
    omega
/-- It tells no rest. -/
theorem fsec_err (l : List UInt8) : (fsec l).2.2 ≠ 5 := by
  unfold fsec
  have hlr : ∀ a n : Int, (lraw l a n).2.2 ≤ 2 := by
    intro a n; unfold lraw; split
    · simp
    · split <;> simp
  by_cases c0 : l.length = 0
  · rw [if_pos c0]; simp
  rw [if_neg c0]
  by_cases c1 : (lcount l 1 1048576).2.2 ≠ 0
  · rw [if_pos c1]; simp only
    have := lget_err_range l 1
    unfold lcount
    split
    · simp only; omega
    · split
      · simp
      · omega
  rw [if_neg c1]
  by_cases c2 : (lraw l (lcount l 1 1048576).2.1 (lcount l 1 1048576).1).2.2 ≠ 0
  · rw [if_pos c2]; simp only; have := hlr (lcount l 1 1048576).2.1 (lcount l 1 1048576).1; omega
  rw [if_neg c2]
  simp only
  have := hlr (lraw l (lcount l 1 1048576).2.1 (lcount l 1 1048576).1).2.1 4
  omega

set_option maxRecDepth 100000 in
/-- What is wrong, a rest being none. -/
theorem wrong_any (a : Nat) (u v : ByteArray) (p : Nat) (er : Int) (w : World) (hs : u.size ≤ 1073741824) (hp : p ≤ u.size) (h5 : er ≠ 5) (h : Rd w a u p er) :
    Calls Try.prog 29 #[.agg #[.pointer (some ⟨a, 0, none⟩), .string v]] w fun e w' => e = .returned (.int .i64 er) ∧ Below w.heap.size w w' := by
  have hh : Rd (w.alloc (.cells #[.pointer (some ⟨a, 0, none⟩), .string v] 47)) a u p er := Blk.alloc h _
  have b0 := Blk.new w 47 #[.pointer (some ⟨a, 0, none⟩), .string v]
  have hB0 : Below w.heap.size w (w.alloc (.cells #[.pointer (some ⟨a, 0, none⟩), .string v] 47)) := (Below.refl _ _).alloc (Nat.le_refl _) _
  obtain ⟨c0, c1⟩ := b0.two
  have HE := Lib.hid (End_any a u p er _ hs hp hh)
  by_cases h1 : endOf u p er = 5
  · have he : er = 0 := by unfold endOf at h1; split at h1; exact absurd h1 h5; omega
    subst he
    rw [h1] at HE
    go_enter Try.func29, Try.ntmps29
    go_wp2_with fail
    refine HE.out.mono ?_
    rintro e w1 ⟨rfl, hb1⟩
    go_wp2
    go_ret
    exact ⟨rfl, hB0.trans (hb1.mono hB0.size)⟩
  · have he : endOf u p er = er := by unfold endOf at h1 ⊢; split; rfl; split; rename_i q1 q2; rw [if_neg q1, if_pos q2] at h1; exact absurd rfl h1; omega
    rw [he] at HE h1
    have e1 : (er != 5) = true := by simpa using h1
    clear he h1 h5
    go_enter Try.func29, Try.ntmps29
    go_wp2_with fail
    refine HE.out.mono ?_
    rintro e w1 ⟨rfl, hb1⟩
    go_wp2
    go_ret
    exact ⟨rfl, hB0.trans (hb1.mono hB0.size)⟩

set_option maxRecDepth 100000 in
theorem read_any (a : Nat) (u : ByteArray) (p : Nat) (er : Int) (w : World) (hp : p ≤ u.size) (h : Rd w a u p er) :
    Calls Try.prog 32 #[.agg #[.pointer (some ⟨a, 0, none⟩), .string u]] w fun e w' => e = .returned (.string (str (u.data.toList.take p))) ∧ Below w.heap.size w w' := by
  have hh : Rd (w.alloc (.cells #[.pointer (some ⟨a, 0, none⟩), .string u] 47)) a u p er := Blk.alloc h _
  have b0 := Blk.new w 47 #[.pointer (some ⟨a, 0, none⟩), .string u]
  have hB0 : Below w.heap.size w (w.alloc (.cells #[.pointer (some ⟨a, 0, none⟩), .string u] 47)) := (Below.refl _ _).alloc (Nat.le_refl _) _
  have hx := extract_str u 0 p
  rw [List.drop_zero, Nat.sub_zero] at hx
  have HX := Lib.hid hx
  clear hx
  have p0 : (0 : Int) ≤ (p : Int) := by omega
  have p1 : (p : Int) ≤ (u.size : Int) := by omega
  go_enter Try.func32, Try.ntmps32
  go_wp2_with fail
  generalize w.alloc (.cells #[.pointer (some ⟨a, 0, none⟩), .string u] 47) = W at *
  obtain ⟨c0, c1⟩ := b0.two
  obtain ⟨r0, r1, r2⟩ := hh.three
  have hBd := hB0.drew
  have hc0 : W.drew.cell? ⟨w.heap.size, 0, none⟩ = some (.pointer (some ⟨a, 0, none⟩)) := c0
  have hc1 : W.drew.cell? ⟨w.heap.size, 1, none⟩ = some (.string u) := c1
  have hr0 : W.drew.cell? ⟨a, 0, none⟩ = some (.string u) := r0
  have hr1 : W.drew.cell? ⟨a, 1, none⟩ = some (.int .i64 p) := r1
  have hl0 : w.heap.size < W.drew.heap.size := b0.lt
  have hl1 : a < W.drew.heap.size := Blk.lt hh
  have HA := Lib.hid (fun W => At_any u (p : Int) W)
  clear c0 c1 r0 r1 r2
  go_region_held3 (fun w' => w'.cell? ⟨w.heap.size, 0, none⟩ = some (.pointer (some ⟨a, 0, none⟩)) ∧ w'.cell? ⟨w.heap.size, 1, none⟩ = some (.string u) ∧ w'.cell? ⟨a, 0, none⟩ = some (.string u) ∧ w'.cell? ⟨a, 1, none⟩ = some (.int .i64 p)) (first | exact ⟨hc0, hc1, hr0, hr1⟩ | go_keep)
    (first
      | (go_at_call 33; (with_reducible refine (HA.out _).mono ?_); rintro e w2 ⟨rfl, hb2⟩; have hBd := hBd.trans (hb2.mono hBd.size); have hc0 := (hb2.cell (p := ⟨w.heap.size, 0, none⟩) hl0).trans hc0; have hc1 := (hb2.cell (p := ⟨w.heap.size, 1, none⟩) hl0).trans hc1; have hr0 := (hb2.cell (p := ⟨a, 0, none⟩) hl1).trans hr0; have hr1 := (hb2.cell (p := ⟨a, 1, none⟩) hl1).trans hr1))
  go_wp2
  go_ret
  exact ⟨by rw [← HX.out]; rfl, hBd⟩

end Go.Proofs.Ythimplhfmamejaa.Frame
