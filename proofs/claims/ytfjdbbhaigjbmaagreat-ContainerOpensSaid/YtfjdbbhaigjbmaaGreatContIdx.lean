/-
  The reference of containers, walked: the index.
-/
import Derived.Test.YtfjdbbhaigjbmaaGreatContRef
namespace Go.Proofs.YtfjdbbhaigjbmaaGreat.Cont
open Go.RowKit Leb Mem _root_.Go.Proofs.YtfjdbbhaigjbmaaGreat.Frame

theorem idx_snoc : ∀ (l : List Sec) (a : Nat) (x : Sec), idx a (l ++ [x]) = idx a l ++ (lput (u64 x.1) ++ lput (a + (body l).length) ++ lput (size x))
  | [], a, x => by simp [idx, body]
  | y :: l, a, x => by
    rw [List.cons_append, idx, idx, idx_snoc l (a + size y) x, body, List.length_append, show (fput y.1 y.2).length = size y from rfl, Nat.add_assoc]
    simp [List.append_assoc]
theorem body_snoc (l : List Sec) (x : Sec) : (body (l ++ [x])).length = (body l).length + size x := by
  rw [body_append, List.length_append]; simp [body, size]
theorem idx_len (l : List Sec) (a : Nat) (hl : l.length ≤ 1000000) (hb : a + (body l).length ≤ 18446744073709551615) : (idx a l).length ≤ 30 * l.length := by
  induction l generalizing a with
  | nil => simp [idx]
  | cons y l ih =>
    have h0 := lput_len10 (n := u64 y.1) (by unfold u64; omega)
    rw [body, List.length_append, show (fput y.1 y.2).length = size y from rfl] at hb
    have h1 := lput_len10 (n := a) (by omega)
    have h2 := lput_len10 (n := size y) (by omega)
    have := ih (a + size y) (by simp at hl; omega) (by omega)
    rw [idx]
    simp
    omega
/-- How many bytes all frames have. -/
theorem body_le (l : List Sec) : (body l).length ≤ (l.map (·.2.length)).sum + 15 * l.length ∨ ∃ x ∈ l, 18446744073709551615 < x.2.length := by
  induction l with
  | nil => simp [body]
  | cons y l ih =>
    rcases ih with h | ⟨x, hx, hh⟩
    · by_cases c : y.2.length ≤ 18446744073709551615
      · left
        have := lput_len10 c
        have h1 := size_eq y
        rw [head_len] at h1
        rw [body, List.length_append, show (fput y.1 y.2).length = size y from rfl]
        simp
        omega
      · exact .inr ⟨y, by simp, by omega⟩
    · exact .inr ⟨x, by simp [hx], hh⟩

/-- Sections that are looked at by the reference. -/
def Lim (xs : List Sect) : Prop := xs.length ≤ 1000000 ∧ total xs ≤ 536870912
theorem secs_len (xs : List Sect) : (secs xs).length = xs.length := by simp [secs]
theorem total_secs (xs : List Sect) : ((secs xs).map (·.2.length)).sum = total xs := by
  unfold secs total
  rw [List.map_map]
  congr 1
theorem total_mem {xs : List Sect} {i : Nat} {x : Sect} (h : xs[i]? = some x) : x.d.size ≤ total xs := by
  have := total_take xs i x h
  have := total_take_le xs (i + 1)
  omega
theorem body_lim {xs : List Sect} (h : Lim xs) (k : Nat) : (body (secs (xs.take k))).length ≤ total xs + 15 * k := by
  have h1 := total_take_le xs k
  rcases body_le (secs (xs.take k)) with h2 | ⟨x, hx, hh⟩
  · rw [total_secs, secs_len, List.length_take] at h2
    omega
  · unfold secs at hx
    rw [List.mem_map] at hx
    obtain ⟨y, hy, rfl⟩ := hx
    obtain ⟨i, hi⟩ := List.mem_iff_getElem?.1 hy
    have := total_mem hi
    rw [len_of] at hh
    have := h.2
    omega

/-- The index, so far. -/
def ixs (n : Nat) (l : List Sec) : List UInt8 := lput n ++ idx 7 l
theorem ixs_snoc (n : Nat) (l : List Sec) (x : Sec) : str (ixs n l) ++ str (lput (u64 x.1)) ++ str (lput (7 + (body l).length)) ++ str (lput (size x)) = str (ixs n (l ++ [x])) := by
  rw [str_app, str_app, str_app]
  unfold ixs
  rw [idx_snoc]
  simp [List.append_assoc]
theorem ixs_size {xs : List Sect} (h : Lim xs) (k : Nat) : (str (ixs xs.length (secs (xs.take k)))).size ≤ 30000010 := by
  have h1 := body_lim h k
  have h2 := lput_len10 (n := xs.length) (by have := h.1; omega)
  have hb : 7 + (body (secs (xs.take k))).length ≤ 18446744073709551615 := by
    by_cases c : k ≤ xs.length
    · have := h.1; have := h.2; omega
    · rw [List.take_of_length_le (by omega)] at h1 ⊢
      have h3 := body_lim h xs.length
      rw [List.take_length] at h3
      have := h.1; have := h.2; omega
  have h3 := idx_len (secs (xs.take k)) 7 (by rw [secs_len, List.length_take]; have := h.1; omega) hb
  rw [secs_len, List.length_take] at h3
  rw [str_size]
  unfold ixs
  rw [List.length_append]
  have := h.1
  omega

theorem u64_wrap (t : Int) : IntKind.u64.wrap t = ((u64 t : Nat) : Int) := by
  unfold u64
  rw [IntKind.wrap_u64]
  omega

set_option maxRecDepth 100000 in
set_option maxHeartbeats 4000000 in
theorem ref_Index_any (A : Option Addr) (cap : Nat) (xs : List Sect) (w : World) (hx : Sects w w.heap.size A xs) (hl : Lim xs) :
    Calls Tryz.prog 10 #[.slice A xs.length cap] w fun e w' => e = .returned (.string (str (index (secs xs)))) ∧ Below w.heap.size w w' := by
  obtain ⟨hl1, hl2⟩ := id hl
  have hwn : IntKind.u64.wrap (xs.length : Int) = (xs.length : Int) := by rw [IntKind.wrap_u64]; omega
  have HP0 := Lib.hid (fun W => ref_put_any (xs.length : Int) (by omega) (by omega) W)
  rw [Int.toNat_natCast] at HP0
  have HX := Lib.hid hx
  clear hx
  go_enter Tryz.func10, Tryz.ntmps10
  go_wp2_with (go_at_call 27; (with_reducible refine (HP0.out _).mono ?_); rintro e w1 ⟨rfl, hb1⟩)
  go_loopw [3, 4, 5] (fun s a i wr => ∃ k : Nat, k ≤ xs.length ∧ i = .int .i64 k ∧ a = .int .i64 ((7 + (body (secs (xs.take k))).length : Nat) : Int) ∧ s = .string (str (ixs xs.length (secs (xs.take k)))) ∧ Below w.heap.size w wr) (fun _ _ i _ => xs.length - (intOf i).toNat)
  case atStart => exact ⟨0, by omega, rfl, rfl, by rw [List.take_zero]; simp [secs, ixs, idx, str], hb1⟩
  case round =>
    obtain ⟨k, hk, rfl, rfl, rfl, hB⟩ := hrel
    by_cases hlt : k < xs.length
    · obtain ⟨x, hxk⟩ : ∃ x, xs[k]? = some x := ⟨_, List.getElem?_eq_getElem hlt⟩
      obtain ⟨ad, rfl, hbk, hs1, h0, h1⟩ := (Sects.below HX.out hB) k x hxk
      have HXK := Lib.hid hxk
      have hsn := ixs_snoc xs.length (secs (xs.take k)) (x.t, x.d.data.toList)
      have hbn := body_snoc (secs (xs.take k)) (x.t, x.d.data.toList)
      rw [← secs_take xs k x hxk] at hsn hbn
      simp only at hsn hbn
      have hbl := body_lim hl k
      have hz0 := ixs_size hl k
      have hxs := total_mem hxk
      have hzl := size_le (x := (x.t, x.d.data.toList)) (by rw [len_of]; omega)
      simp only at hzl
      rw [len_of] at hzl
      have hu := u64_wrap x.t
      have hul : u64 x.t ≤ 18446744073709551615 := by unfold u64; omega
      have HZ := Lib.hid (fun W => ref_size_any x.t x.d (by omega) W)
      generalize u64 x.t = T at *
      generalize size (x.t, x.d.data.toList) = z at *
      generalize (body (secs (xs.take k))).length = q at *
      generalize str (ixs xs.length (secs (xs.take k))) = S at *
      have p1 := lput_len10 hul
      have p2 := lput_len10 (n := 7 + q) (by omega)
      have p3 := lput_len10 (n := z) (by omega)
      have HP1 := Lib.hid (fun W => ref_put_any (T : Int) (by omega) (by omega) W)
      have HP2 := Lib.hid (fun W => ref_put_any ((7 + q : Nat) : Int) (by omega) (by omega) W)
      have HP3 := Lib.hid (fun W => ref_put_any (z : Int) (by omega) (by omega) W)
      rw [Int.toNat_natCast] at HP1 HP2 HP3
      rw [← str_size] at p1 p2 p3
      change Hid (∀ W, Calls _ _ _ W fun e w' => e = .returned (.string (str (lput T))) ∧ Below W.heap.size W w') at HP1
      change Hid (∀ W, Calls _ _ _ W fun e w' => e = .returned (.string (str (lput (7 + q)))) ∧ Below W.heap.size W w') at HP2
      change Hid (∀ W, Calls _ _ _ W fun e w' => e = .returned (.string (str (lput z))) ∧ Below W.heap.size W w') at HP3
      generalize str (lput T) = P1 at *
      generalize str (lput (7 + q)) = P2 at *
      generalize str (lput z) = P3 at *
      have hw2 : IntKind.u64.wrap ((7 + q : Nat) : Int) = ((7 + q : Nat) : Int) := by rw [IntKind.wrap_u64]; omega
      have hw3 : IntKind.u64.wrap (z : Int) = (z : Int) := by rw [IntKind.wrap_u64]; omega
      have hw4 : IntKind.i64.wrap (((7 + q : Nat) : Int) + (z : Int)) = ((7 + q : Nat) : Int) + (z : Int) := IntWalk.i64_in _ (by omega)
      have HQ := Lib.hid (show ((7 + q : Nat) : Int) + (z : Int) = ((7 + (body (secs (xs.take (k + 1)))).length : Nat) : Int) by rw [hbn]; omega)
      have HS := Lib.hid hsn
      have hq1 := fun W => run_string_add_sum (P := Tryz.prog) W S P1 (by omega)
      have hq2 := fun W => run_string_add_sum (P := Tryz.prog) W (S ++ P1) P2 (by rw [ByteArray.size_append]; omega)
      have hq3 := fun W => run_string_add_sum (P := Tryz.prog) W (S ++ P1 ++ P2) P3 (by rw [ByteArray.size_append, ByteArray.size_append]; omega)
      generalize ((7 + q : Nat) : Int) = Q at *
      clear hsn hbn hbl hz0 hxs hzl hul p1 p2 p3 hxk
      go_wp2_with fail
      have hblk : (ad.add (k * 2)).block = ad.block := add_blockS _ _
      have hlb : (ad.add (k * 2)).block < wr.drew.heap.size := by have := hB.size; show (ad.add (k * 2)).block < wr.heap.size; omega
      clear hblk
      have h0 : wr.drew.cell? (ad.add (k * 2)) = some (.int .i64 x.t) := h0
      have h1 : wr.drew.cell? ⟨(ad.add (k * 2)).block, (ad.add (k * 2)).off + 1, none⟩ = some (.string x.d) := h1
      have hB := hB.drew
      go_region_held3 (fun w' => w'.cell? (ad.add (k * 2)) = some (.int .i64 x.t) ∧ w'.cell? ⟨(ad.add (k * 2)).block, (ad.add (k * 2)).off + 1, none⟩ = some (.string x.d)) (first | exact ⟨h0, h1⟩ | go_keep)
        (first
          | (go_at_call 27; (first | (with_reducible refine (HP1.out _).mono ?_) | (with_reducible refine (HP2.out _).mono ?_) | (with_reducible refine (HP3.out _).mono ?_)); rintro e w2 ⟨rfl, hb2⟩; have h0 := (hb2.cell hlb).trans h0; have h1 := (hb2.cell (p := ⟨(ad.add (k * 2)).block, (ad.add (k * 2)).off + 1, none⟩) hlb).trans h1; have hB := hB.trans (hb2.mono hB.size); have hlb := Nat.lt_of_lt_of_le hlb hb2.size)
          | (go_at_call 18; (with_reducible refine (HZ.out _).mono ?_); rintro e w2 ⟨rfl, hb2⟩; have h0 := (hb2.cell hlb).trans h0; have h1 := (hb2.cell (p := ⟨(ad.add (k * 2)).block, (ad.add (k * 2)).off + 1, none⟩) hlb).trans h1; have hB := hB.trans (hb2.mono hB.size); have hlb := Nat.lt_of_lt_of_le hlb hb2.size))
      clear h0 h1 hq1 hq2 hq3
      obtain ⟨ad', hA', hbk', hs1', h0, h1⟩ := (Sects.below HX.out hB) k x HXK.out
      obtain rfl : ad = ad' := Option.some.inj hA'
      go_wp2_with ((go_at_call 18; (with_reducible refine (HZ.out _).mono ?_); rintro e w3 ⟨rfl, hb3⟩))
      go_roundw
      case rel => exact ⟨k + 1, by omega, by go_num, by rw [← HQ.out], by rw [HS.out], hB.trans (hb3.mono hB.size)⟩
      case measure => simp [intOf]; omega
    · have hk9 : k = xs.length := by omega
      subst hk9
      have HE := Lib.hid (show ixs xs.length (secs (xs.take xs.length)) = index (secs xs) by rw [List.take_length]; unfold ixs index; rw [secs_len])
      go_wp2_with fail
      go_ret
      exact ⟨by rw [← HE.out]; rfl, hB⟩

end Go.Proofs.YtfjdbbhaigjbmaaGreat.Cont
