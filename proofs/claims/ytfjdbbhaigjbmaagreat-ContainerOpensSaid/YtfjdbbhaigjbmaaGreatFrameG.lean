/-
  Plain facts on frames: what a section's bytes are, what stands at a place, that each is the other's way back, and that bits turned are found out. No program is met here.
  The document's own text for layer 6, walked.
  The document's own text for layer 6, walked: a frame is put, and got.
  The document's own text for layer 6, walked: what stands at a place.
  Package frame: a row of closures, asked one by one till one tells an error.
  Package frame, walked: a frame is put.
  Package frame, walked: a frame is put.
-/
import Derived.Test.YtfjdbbhaigjbmaaGreatLebG
import Derived.Test.YtfjdbbhaigjbmaaGreatCrcG
import Derived.Test.YtfjdbbhaigjbmaaGreatBaseG
import Derived.Deep.RegionHeld3
import Derived.Deep.RegionWith
import Derived.Lib.Strings
import Derived.RegionTactic
import Derived.BigQuiet
import Derived.BigRegion
import Derived.Test.YtfjdbbhaigjbmaaGreatWireG
import Derived.Laws.EntriesVeiled
namespace Go.Proofs.YtfjdbbhaigjbmaaGreat.Frame
open Leb Crc

/-- A number's lowest byte. -/
def b8 (n : Int) : UInt8 := UInt8.ofNat (n % 256).toNat
theorem b8_mod (n : Int) : n % 256 = ((b8 n).toNat : Int) := by
  have h : (n % 256).toNat < 256 := by omega
  rw [b8, UInt8.toNat_ofNat', Nat.mod_eq_of_lt h]
  omega
theorem b8_of {n : Int} (h0 : 0 ≤ n) (h1 : n ≤ 255) : ((b8 n).toNat : Int) = n := by rw [← b8_mod]; omega
theorem b8_byte (b : UInt8) : b8 (b.toNat : Int) = b := by
  have h := b.toNat_lt
  unfold b8
  rw [show ((b.toNat : Int) % 256).toNat = b.toNat by omega]
  simp

/-- Ahead of the data. -/
def head (t : Int) (d : List UInt8) : List UInt8 := b8 t :: lput d.length
theorem head_len (t : Int) (d : List UInt8) : (head t d).length = (lput d.length).length + 1 := rfl
/-- The frame. -/
def fput (t : Int) (d : List UInt8) : List UInt8 := head t d ++ d ++ tail (head t d ++ d)
theorem fput_len (t : Int) (d : List UInt8) : (fput t d).length = (head t d).length + d.length + 4 := by unfold fput; simp [tail_len]; omega
/-- The frame, and what is wrong. -/
def fPut (t : Int) (d : List UInt8) : List UInt8 × Int := if t < 0 ∨ 255 < t then ([], 1) else if 1048576 < d.length then ([], 4) else (fput t d, 0)

/-- What stands at a place: type, data; the place behind; what is wrong. -/
def fget (l : List UInt8) (a : Int) : (Int × List UInt8) × Int × Int :=
  if a < 0 ∨ (l.length : Int) < a then ((0, []), a, 1)
  else if a = l.length then ((0, []), a, 2)
  else if (lget l (a + 1)).2.2 ≠ 0 then ((0, []), a, (lget l (a + 1)).2.2)
  else if 1048576 < (lget l (a + 1)).1 then ((0, []), a, 4)
  else if (l.length : Int) - (lget l (a + 1)).2.1 < (lget l (a + 1)).1 + 4 then ((0, []), a, 2)
  else if tail ((l.drop a.toNat).take ((lget l (a + 1)).2.1.toNat + (lget l (a + 1)).1 - a.toNat)) ≠ (l.drop ((lget l (a + 1)).2.1.toNat + (lget l (a + 1)).1)).take 4 then ((0, []), a, 6)
  else (((l.getD a.toNat 0).toNat, (l.drop (lget l (a + 1)).2.1.toNat).take (lget l (a + 1)).1), (lget l (a + 1)).2.1 + (lget l (a + 1)).1 + 4, 0)

/-- What stands behind a head, whatever it is. -/
theorem fget_at (X Y d z : List UInt8) (t : Int) (h0 : 0 ≤ t) (h1 : t ≤ 255) (hd : d.length ≤ 1048576) (m : List UInt8) (hm : m.length = d.length) (hz : z.length = 4) :
    fget (X ++ (head t d ++ (m ++ z)) ++ Y) X.length = if tail (head t d ++ m) = z then ((t, m), (X.length : Int) + (head t d).length + d.length + 4, 0) else ((0, []), X.length, 6) := by
  obtain ⟨L, hL⟩ : ∃ L, X ++ (head t d ++ (m ++ z)) ++ Y = L := ⟨_, rfl⟩
  have hlen : L.length = X.length + (head t d).length + d.length + 4 + Y.length := by rw [← hL]; simp [hm, hz]; omega
  have hh := head_len t d
  have hp := lput_pos d.length
  have hget : lget L ((X.length : Int) + 1) = (d.length, (X.length : Int) + (head t d).length, 0) := by
    have := lget_back (n := d.length) (by omega) (X ++ [b8 t]) (m ++ z ++ Y)
    rw [show X ++ [b8 t] ++ lput d.length ++ (m ++ z ++ Y) = L by rw [← hL]; simp [head, List.append_assoc]] at this
    rw [List.length_append, List.length_singleton] at this
    rw [show ((X.length + 1 : Nat) : Int) = (X.length : Int) + 1 by omega] at this
    rw [this, hh]
    congr 2
    omega
  have e1 : ((X.length : Int) + (head t d).length).toNat = X.length + (head t d).length := by omega
  have hdrop : L.drop X.length = head t d ++ (m ++ z) ++ Y := by rw [← hL]; simp [List.append_assoc]
  have hd2 : L.drop (X.length + (head t d).length) = m ++ z ++ Y := by rw [← List.drop_drop, hdrop]; simp [List.append_assoc]
  have hd3 : L.drop (X.length + (head t d).length + d.length) = z ++ Y := by rw [← List.drop_drop, hd2, ← hm]; simp [List.append_assoc]
  have ht1 : (L.drop X.length).take (X.length + (head t d).length + d.length - X.length) = head t d ++ m := by
    rw [hdrop, show X.length + (head t d).length + d.length - X.length = (head t d ++ m).length by simp [hm]; omega, ← List.append_assoc, List.append_assoc]
    exact List.take_left
  have ht2 : (L.drop (X.length + (head t d).length + d.length)).take 4 = z := by rw [hd3, ← hz]; exact List.take_left
  have ht3 : (L.drop (X.length + (head t d).length)).take d.length = m := by rw [hd2, ← hm, List.append_assoc]; exact List.take_left
  have hg : L.getD X.length 0 = b8 t := by
    rw [← hL]
    simp [head, List.getD_eq_getElem?_getD]
  unfold fget
  rw [hL, hget]
  simp only
  rw [if_neg (by omega), if_neg (by omega), if_neg (by simp), if_neg (by omega), if_neg (by omega), Int.toNat_natCast, e1, ht1, ht2, ht3, hg]
  by_cases c : tail (head t d ++ m) = z
  · rw [if_neg (by simp [c]), if_pos c, b8_of h0 h1]
  · rw [if_pos c, if_neg c]

/-- WHAT IS PUT IS GOT BACK. -/
theorem fget_back (X Y d : List UInt8) (t : Int) (h0 : 0 ≤ t) (h1 : t ≤ 255) (hd : d.length ≤ 1048576) : fget (X ++ fput t d ++ Y) X.length = ((t, d), (X.length : Int) + (fput t d).length, 0) := by
  have := fget_at X Y d (tail (head t d ++ d)) t h0 h1 hd d rfl (tail_len _)
  rw [if_pos rfl] at this
  unfold fput
  rw [List.append_assoc (head t d), this]
  simp [tail_len]
  omega

theorem fget_err (l : List UInt8) (a : Int) (h : (fget l a).2.2 ≠ 0) : (fget l a).1 = (0, []) ∧ (fget l a).2.1 = a := by
  unfold fget at h ⊢
  repeat' split
  all_goals first | exact ⟨rfl, rfl⟩ | skip
  all_goals simp_all

/-- WHAT IS GOT WAS PUT JUST SO. -/
theorem fget_only (l : List UInt8) (a : Int) (h : (fget l a).2.2 = 0) : 0 ≤ a ∧ a < (fget l a).2.1 ∧ (fget l a).2.1 ≤ l.length ∧ 0 ≤ (fget l a).1.1 ∧ (fget l a).1.1 ≤ 255 ∧ (fget l a).1.2.length ≤ 1048576 ∧
    fput (fget l a).1.1 (fget l a).1.2 = (l.drop a.toNat).take ((fget l a).2.1.toNat - a.toNat) := by
  unfold fget at h ⊢
  by_cases c1 : a < 0 ∨ (l.length : Int) < a
  · rw [if_pos c1] at h; simp at h
  rw [if_neg c1] at h ⊢
  by_cases c2 : a = l.length
  · rw [if_pos c2] at h; simp at h
  rw [if_neg c2] at h ⊢
  by_cases c3 : (lget l (a + 1)).2.2 ≠ 0
  · rw [if_pos c3] at h; exact absurd h c3
  rw [if_neg c3] at h ⊢
  obtain ⟨g1, g2, g3, g4⟩ := lget_only l (a + 1) (by omega)
  obtain ⟨⟨n, b, e⟩, hl⟩ : ∃ t, lget l (a + 1) = t := ⟨_, rfl⟩
  rw [hl] at h g2 g3 g4 ⊢
  simp only at h g2 g3 g4 ⊢
  by_cases c4 : 1048576 < n
  · rw [if_pos c4] at h; simp at h
  rw [if_neg c4] at h ⊢
  by_cases c5 : (l.length : Int) - b < (n : Int) + 4
  · rw [if_pos c5] at h; simp at h
  rw [if_neg c5] at h ⊢
  obtain ⟨k, rfl⟩ := Int.eq_ofNat_of_zero_le (show 0 ≤ a by omega)
  obtain ⟨q, rfl⟩ := Int.eq_ofNat_of_zero_le (show 0 ≤ b by omega)
  simp only [Int.toNat_natCast] at h g4 ⊢
  rw [show ((k : Int) + 1).toNat = k + 1 by omega] at g4
  by_cases c6 : tail ((l.drop k).take (q + n - k)) ≠ (l.drop (q + n)).take 4
  · rw [if_pos c6] at h; simp at h
  rw [if_neg c6] at h ⊢
  have c7 : tail ((l.drop k).take (q + n - k)) = (l.drop (q + n)).take 4 := by simpa using c6
  have hk : k < l.length := by omega
  have hdl : ((l.drop q).take n).length = n := by rw [List.length_take, List.length_drop]; omega
  have hby := (l.getD k 0).toNat_lt
  simp only
  refine ⟨by omega, by omega, by omega, by omega, by omega, by omega, ?_⟩
  have ehead : head ((l.getD k 0).toNat : Int) ((l.drop q).take n) = (l.drop k).take (q - k) := by
    unfold head
    rw [b8_byte, hdl, g4, List.drop_eq_getElem_cons hk, show q - k = (q - (k + 1)) + 1 by omega, List.take_succ_cons]
    congr 1
    simp [List.getD_eq_getElem?_getD, List.getElem?_eq_getElem hk]
  have ebody : head ((l.getD k 0).toNat : Int) ((l.drop q).take n) ++ (l.drop q).take n = (l.drop k).take (q + n - k) := by
    rw [ehead, show q + n - k = (q - k) + n by omega, List.take_add, List.drop_drop, show k + (q - k) = q by omega]
  unfold fput
  rw [ebody, c7, show ((q : Int) + (n : Int) + 4).toNat - k = (q + n - k) + 4 by omega, List.take_add, List.drop_drop, show k + (q + n - k) = q + n by omega]

theorem good_part (a t : List UInt8) (h : t.length = 4) : good (a ++ t) = true ↔ tail a = t := by
  have hl : 4 ≤ (a ++ t).length := by simp [h]
  have e : (a ++ t).length - 4 = a.length := by simp [h]
  unfold good
  rw [e, List.drop_left, List.take_left]
  simp only [hl, decide_true, Bool.true_and, beq_iff_eq]
  exact ⟨Eq.symm, Eq.symm⟩

theorem val_append : ∀ (a b : List UInt8), val (a ++ b) = val a ^^^ 2 ^ (8 * a.length) * val b
  | [], b => by simp [val]
  | x :: a, b => by
    have hx : ∀ p q n : Nat, 2 ^ n * (p ^^^ q) = 2 ^ n * p ^^^ 2 ^ n * q := fun p q n => by
      apply Nat.eq_of_testBit_eq
      intro i
      simp only [Nat.testBit_two_pow_mul, Nat.testBit_xor]
      by_cases h : n ≤ i <;> simp [h]
    rw [List.cons_append]
    simp only [val, List.length_cons]
    rw [val_append a b, hx, show 8 * (a.length + 1) = 8 + 8 * a.length by omega, Nat.pow_add, Nat.mul_assoc, Nat.xor_assoc]

/-- Behind a head the same bits are turned, so much further on. -/
theorem Turned.behind {h m z : List UInt8} {at_ bits : Nat} (ht : Turned m z at_ bits) : Turned (h ++ m) (h ++ z) (8 * h.length + at_) bits := by
  refine ⟨by simp [ht.1], ?_⟩
  have hx : ∀ p q n : Nat, 2 ^ n * (p ^^^ q) = 2 ^ n * p ^^^ 2 ^ n * q := fun p q n => by
    apply Nat.eq_of_testBit_eq
    intro i
    simp only [Nat.testBit_two_pow_mul, Nat.testBit_xor]
    by_cases h : n ≤ i <;> simp [h]
  rw [val_append, val_append, ht.2, hx, ← Nat.xor_assoc, List.length_append, Nat.pow_add, Nat.mul_assoc]
  rw [show 8 * (h.length + m.length) - (8 * h.length + at_) = 8 * m.length - at_ by omega]

/-- WHO TURNS BITS OF A FRAME'S DATA AND ITS TAIL IS FOUND OUT. -/
theorem fget_burst (X Y d z : List UInt8) (t : Int) (h0 : 0 ≤ t) (h1 : t ≤ 255) (hd : d.length ≤ 1048576) (at_ bits : Nat) (hb : bits < 4294967296)
    (hz : Turned (d ++ tail (head t d ++ d)) z at_ bits) (hne : z ≠ d ++ tail (head t d ++ d)) : fget (X ++ (head t d ++ z) ++ Y) X.length = (((0 : Int), ([] : List UInt8)), (X.length : Int), (6 : Int)) := by
  have hl : z.length = d.length + 4 := by rw [hz.1]; simp [tail_len]
  obtain ⟨m, u, rfl, hm, hu⟩ : ∃ m u, z = m ++ u ∧ m.length = d.length ∧ u.length = 4 := ⟨z.take d.length, z.drop d.length, by simp, by simp; omega, by simp; omega⟩
  rw [fget_at X Y d u t h0 h1 hd m hm hu, if_neg]
  intro e
  have hg : good (head t d ++ d ++ tail (head t d ++ d)) = true := good_tail _
  have hbur := burst (s := head t d ++ (d ++ tail (head t d ++ d))) (x := head t d ++ (m ++ u)) (by rw [← List.append_assoc]; exact hg) hb (Turned.behind hz)
  have := hbur.1 (by rw [← List.append_assoc]; exact (good_part _ _ hu).2 e)
  exact hne (List.append_cancel_left this)

/-- Unlike sections have unlike frames, and none begins with another one. -/
theorem fput_apart {t u : Int} {d e : List UInt8} (h0 : 0 ≤ t) (h1 : t ≤ 255) (hd : d.length ≤ 1048576) (g0 : 0 ≤ u) (g1 : u ≤ 255) (he : e.length ≤ 1048576) (h : (fput u e).take (fput t d).length = fput t d) : t = u ∧ d = e := by
  have e1 := fget_back [] ((fput u e).drop (fput t d).length) d t h0 h1 hd
  have e2 := fget_back [] [] e u g0 g1 he
  have hs : [] ++ fput t d ++ (fput u e).drop (fput t d).length = [] ++ fput u e ++ [] := by
    rw [List.append_nil, List.nil_append, List.nil_append]
    conv => lhs; rw [← h]
    rw [List.length_take]
    conv => rhs; rw [← List.take_append_drop (fput t d).length (fput u e)]
    congr 1
    by_cases hle : (fput t d).length ≤ (fput u e).length
    · rw [Nat.min_eq_left hle]
    · rw [List.drop_eq_nil_of_le (by omega), List.drop_eq_nil_of_le (by omega)]
  rw [hs, e2] at e1
  injection e1 with e1 _
  injection e1 with a b
  exact ⟨a.symm, b.symm⟩

end Go.Proofs.YtfjdbbhaigjbmaaGreat.Frame

namespace Go.Proofs.YtfjdbbhaigjbmaaGreat.Frame
open Go.RowKit Leb Mem

/-- A list of bytes as a string. -/
def str (l : List UInt8) : ByteArray := ⟨l.toArray⟩
theorem str_size (l : List UInt8) : (str l).size = l.length := by simp [str, ByteArray.size]
theorem str_list (l : List UInt8) : (str l).data.toList = l := by simp [str]
theorem str_of (s : ByteArray) : str s.data.toList = s := rfl
theorem str_app (l m : List UInt8) : str l ++ str m = str (l ++ m) := ByteArray.mk_append_mk ..
theorem len_of (s : ByteArray) : s.data.toList.length = s.size := by simp
theorem extract_str (s : ByteArray) (a b : Nat) : s.extract a b = str ((s.data.toList.drop a).take (b - a)) := by
  apply ByteArray.ext
  apply Array.ext'
  rw [Lib.extract_data]
  simp [str, List.take_drop]
theorem u64_size {n : Nat} (h : n ≤ 1073741824) : IntKind.u64.wrap (n : Int) = (n : Int) := by rw [IntKind.wrap_u64]; omega

set_option maxRecDepth 100000 in
set_option maxHeartbeats 1000000 in
theorem ref_Head_any (t : Int) (d : ByteArray) (hd : d.size ≤ 1073741824) (w : World) :
    Calls Tryz.prog 38 #[.agg #[.int .i64 t, .string d]] w fun e w' => e = .returned (.string (str (head t d.data.toList))) ∧ Below w.heap.size w w' := by
  have kc := conv_one (P := Tryz.prog) 60 5 Tryz.underlying60 Tryz.underlying5 (IntKind.u8.wrap t) 9 Tryz.underlying9
  have hu := u64_size hd
  have hp := lput_len10 (n := d.size) (by omega)
  have HP := Lib.hid (fun W => ref_put_any (d.size : Int) (by omega) (by omega) W)
  rw [Int.toNat_natCast] at HP
  have hz : (⟨(lput d.size).toArray⟩ : ByteArray).size ≤ 10 := by show (str (lput d.size)).size ≤ 10; rw [str_size]; exact hp
  have hq1 := fun W => run_string_add_sum (P := Tryz.prog) W (⟨#[UInt8.ofNat (IntKind.u8.wrap t).toNat]⟩ : ByteArray) (⟨(lput d.size).toArray⟩ : ByteArray) (by show 1 + _ ≤ _; omega)
  have HE := Lib.hid (show (⟨#[UInt8.ofNat (IntKind.u8.wrap t).toNat]⟩ : ByteArray) ++ ⟨(lput d.size).toArray⟩ = str (head t d.data.toList) by
    show str [b8 t] ++ str (lput d.size) = _
    rw [str_app]; unfold head; rw [len_of]; rfl)
  have hB0 : Below w.heap.size w (w.alloc (.cells #[.int .i64 t, .string d] 34)) := (Below.refl _ _).alloc (Nat.le_refl _) _
  go_enter Tryz.func38, Tryz.ntmps38
  go_wp2_with fail
  go_region_with (go_at_call 27; refine (HP.out _).mono ?_; rintro e w1 ⟨rfl, hb1⟩; obtain ⟨hc1, hf1⟩ := bcell hb1; have hz1 : w.heap.size ≤ w1.heap.size := by have := hb1.size; simp at this; omega)
  all_goals go_wp2
  all_goals go_ret
  all_goals refine ⟨by rw [← HE.out]; rfl, ?_⟩
  all_goals first
    | exact (hB0.alloc (by simp) _).drew.trans (hb1.mono (by simp; omega))
    | exact (hB0.drew.trans (hb1.mono (by simp))).alloc hz1 _
    | exact hB0.drew.trans (hb1.mono (by simp))

end Go.Proofs.YtfjdbbhaigjbmaaGreat.Frame

namespace Go.Proofs.YtfjdbbhaigjbmaaGreat.Frame
open Go.RowKit Leb Mem

/-- What putting comes to. -/
def PutEnds (t : Int) (d : ByteArray) (w : World) (e : Ending) (w' : World) : Prop :=
  e = .returned (.tuple #[.string (str (fPut t d.data.toList).1), .int .i64 (fPut t d.data.toList).2]) ∧ Below w.heap.size w w'
theorem PutEnds.mk {t : Int} {d s : ByteArray} {w w' : World} {l : List UInt8} {c : Int} (h : fPut t d.data.toList = (l, c)) (hs : s = str l) (hb : Below w.heap.size w w') : PutEnds t d w (.returned (.tuple #[.string s, .int .i64 c])) w' :=
  ⟨by rw [h, hs], hb⟩
theorem PutEnds.to {t : Int} {d : ByteArray} {w w' : World} {e : Ending} {l : List UInt8} {c : Int} (h : PutEnds t d w e w') (hl : fPut t d.data.toList = (l, c)) : e = .returned (.tuple #[.string (str l), .int .i64 c]) ∧ Below w.heap.size w w' := by
  obtain ⟨h1, h2⟩ := h
  rw [hl] at h1
  exact ⟨h1, h2⟩

set_option maxRecDepth 100000 in
set_option maxHeartbeats 1000000 in
theorem ref_Put_frame (t : Int) (d : ByteArray) (hd : d.size ≤ 1073741824) (w : World) :
    Calls Tryz.prog 19 #[.agg #[.int .i64 t, .string d]] w (PutEnds t d w) := by
  have hB0 : Below w.heap.size w (w.alloc (.cells #[.int .i64 t, .string d] 34)) := (Below.refl _ _).alloc (Nat.le_refl _) _
  by_cases h0 : t < 0
  · have HE := Lib.hid (show fPut t d.data.toList = ([], 1) by unfold fPut; rw [if_pos (.inl h0)])
    go_enter Tryz.func19, Tryz.ntmps19
    go_wp2_with fail
    go_ret2
    exact PutEnds.mk HE.out rfl hB0
  · by_cases h1 : 255 < t
    · have HE := Lib.hid (show fPut t d.data.toList = ([], 1) by unfold fPut; rw [if_pos (.inr h1)])
      go_enter Tryz.func19, Tryz.ntmps19
      go_wp2_with fail
      go_ret2
      exact PutEnds.mk HE.out rfl hB0
    · have h3 : t ≤ 255 := by omega
      have h4 : 0 ≤ t := by omega
      by_cases h2 : 1048576 < d.size
      · have HE := Lib.hid (show fPut t d.data.toList = ([], 4) by unfold fPut; rw [if_neg (by omega), if_pos (by rw [len_of]; exact h2)])
        go_enter Tryz.func19, Tryz.ntmps19
        go_wp2_with fail
        go_ret2
        exact PutEnds.mk HE.out rfl hB0
      · have HE := Lib.hid (show fPut t d.data.toList = (fput t d.data.toList, 0) by unfold fPut; rw [if_neg (by omega), if_neg (by rw [len_of]; exact h2)])
        have hp := lput_len10 (n := d.size) (by omega)
        have HH := Lib.hid (fun W => ref_Head_any t d hd W)
        obtain ⟨H, hH⟩ : ∃ H, head t d.data.toList = H := ⟨_, rfl⟩
        have hHl : H.length ≤ 11 := by rw [← hH, head_len, len_of]; omega
        rw [hH] at HH
        have hHs : (str H).size ≤ 11 := by rw [str_size]; exact hHl
        have hbs : (str (H ++ d.data.toList)).size ≤ 1048587 := by rw [str_size, List.length_append, len_of]; omega
        have HTl := Lib.hid (fun W => Crc.ref_Tail_any (str (H ++ d.data.toList)) (by omega) W)
        rw [str_list] at HTl
        obtain ⟨T, hT⟩ : ∃ T, Crc.tail (H ++ d.data.toList) = T := ⟨_, rfl⟩
        have hTl : (str T).size = 4 := by rw [str_size, ← hT]; rfl
        rw [hT] at HTl
        have HF := Lib.hid (show str (H ++ d.data.toList) ++ str T = str (fput t d.data.toList) by rw [str_app]; unfold fput; rw [hH, hT])
        have HS := Lib.hid (show str H ++ d = str (H ++ d.data.toList) by conv => lhs; rw [← str_of d, str_app])
        have hTz : (str T).size ≤ 4 := by omega
        clear hH hT hTl
        have hq1 := fun W => run_string_add_sum (P := Tryz.prog) W (str H) d (by omega)
        have hq2 := fun W => run_string_add_sum (P := Tryz.prog) W (str (H ++ d.data.toList)) (str T) (by omega)
        have bP := Blk.new w 34 #[.int .i64 t, .string d]
        go_enter Tryz.func19, Tryz.ntmps19
        go_wp2_with fail
        generalize w.alloc (.cells #[.int .i64 t, .string d] 34) = W at *
        obtain ⟨hc0, hc1⟩ := bP.two
        have hBd := hB0.drew
        have hwl := bP.lt
        have HWL := Lib.hid (show w.heap.size < W.drew.heap.size from hwl)
        go_region_held3 (fun w' => w'.cell? ⟨w.heap.size, 0, none⟩ = some (.int .i64 t) ∧ w'.cell? ⟨w.heap.size, 1, none⟩ = some (.string d)) (first | exact ⟨hc0, hc1⟩ | exact ⟨hk0, hk1⟩ | go_keep)
          (first | (go_at_call 38; (with_reducible refine (HH.out _).mono ?_); rintro e w1 ⟨rfl, hb1⟩; have hk0 := (hb1.cell (p := ⟨w.heap.size, 0, none⟩) HWL.out).trans hc0; have hk1 := (hb1.cell (p := ⟨w.heap.size, 1, none⟩) HWL.out).trans hc1; have hB1 := hBd.trans (hb1.mono hBd.size)))
        clear hc0 hc1 hk0 hk1 hq1
        rw [HS.out]
        go_wp2_with fail
        refine (HTl.out _).mono ?_
        rintro e w2 ⟨rfl, hb2⟩
        rw [show (⟨T.toArray⟩ : ByteArray) = str T from rfl]
        go_wp2_with fail
        go_ret2
        exact PutEnds.mk HE.out HF.out (hB1.trans (hb2.mono hB1.size))

end Go.Proofs.YtfjdbbhaigjbmaaGreat.Frame

namespace Go.Proofs.YtfjdbbhaigjbmaaGreat.Frame
open Go.RowKit Leb Mem

/-- What getting comes to. -/
def FGetEnds (s : ByteArray) (a : Int) (w : World) (e : Ending) (w' : World) : Prop :=
  e = .returned (.tuple #[.agg #[.int .i64 (fget s.data.toList a).1.1, .string (str (fget s.data.toList a).1.2)], .int .i64 (fget s.data.toList a).2.1, .int .i64 (fget s.data.toList a).2.2]) ∧ Below w.heap.size w w'
theorem FGetEnds.mk {s u : ByteArray} {a t b c : Int} {d : List UInt8} {w w' : World} (h : fget s.data.toList a = ((t, d), b, c)) (hu : u = str d) (hb : Below w.heap.size w w') : FGetEnds s a w (.returned (.tuple #[.agg #[.int .i64 t, .string u], .int .i64 b, .int .i64 c])) w' :=
  ⟨by rw [h, hu], hb⟩
theorem FGetEnds.to {s : ByteArray} {a t b c : Int} {d : List UInt8} {w w' : World} {e : Ending} (h : FGetEnds s a w e w') (hl : fget s.data.toList a = ((t, d), b, c)) : e = .returned (.tuple #[.agg #[.int .i64 t, .string (str d)], .int .i64 b, .int .i64 c]) ∧ Below w.heap.size w w' := by
  obtain ⟨h1, h2⟩ := h
  rw [hl] at h1
  exact ⟨h1, h2⟩

/-! ### The ways through, told apart -/
theorem fget_arg {l : List UInt8} {a : Int} (h : a < 0 ∨ (l.length : Int) < a) : fget l a = ((0, []), a, 1) := by unfold fget; rw [if_pos h]
theorem fget_end {l : List UInt8} : fget l l.length = ((0, []), (l.length : Int), 2) := by unfold fget; rw [if_neg (by omega), if_pos rfl]
theorem fget_num {l : List UInt8} {a c : Int} {n : Nat} {b : Int} (h0 : 0 ≤ a) (h1 : a < l.length) (hl : lget l (a + 1) = (n, b, c)) (hc : c ≠ 0) : fget l a = ((0, []), a, c) := by
  unfold fget; rw [if_neg (by omega), if_neg (by omega), hl, if_pos hc]
theorem fget_large {l : List UInt8} {a : Int} {n : Nat} {b : Int} (h0 : 0 ≤ a) (h1 : a < l.length) (hl : lget l (a + 1) = (n, b, 0)) (hn : 1048576 < n) : fget l a = ((0, []), a, 4) := by
  unfold fget; rw [if_neg (by omega), if_neg (by omega), hl, if_neg (by simp), if_pos hn]
theorem fget_short {l : List UInt8} {a : Int} {n : Nat} {b : Int} (h0 : 0 ≤ a) (h1 : a < l.length) (hl : lget l (a + 1) = (n, b, 0)) (hn : n ≤ 1048576) (hs : (l.length : Int) - b < n + 4) : fget l a = ((0, []), a, 2) := by
  unfold fget; rw [if_neg (by omega), if_neg (by omega), hl, if_neg (by simp), if_neg (by omega), if_pos hs]
theorem fget_sum {l : List UInt8} {a q n : Nat} (h1 : a < l.length) (hl : lget l ((a : Int) + 1) = (n, (q : Int), 0)) (hn : n ≤ 1048576) (hs : q + n + 4 ≤ l.length) (ht : Crc.tail ((l.drop a).take (q + n - a)) ≠ (l.drop (q + n)).take 4) : fget l a = ((0, []), (a : Int), 6) := by
  unfold fget; rw [if_neg (by omega), if_neg (by omega), hl, if_neg (by simp), if_neg (by omega), if_neg (by simp only; omega), if_pos (by simpa using ht)]
theorem fget_ok {l : List UInt8} {a q n : Nat} (h1 : a < l.length) (hl : lget l ((a : Int) + 1) = (n, (q : Int), 0)) (hn : n ≤ 1048576) (hs : q + n + 4 ≤ l.length) (ht : Crc.tail ((l.drop a).take (q + n - a)) = (l.drop (q + n)).take 4) :
    fget l a = ((((l.getD a 0).toNat : Int), (l.drop q).take n), (q : Int) + n + 4, 0) := by
  unfold fget; rw [if_neg (by omega), if_neg (by omega), hl, if_neg (by simp), if_neg (by omega), if_neg (by simp only; omega), if_neg (by simpa using ht)]; simp

theorem z2_new (w : World) : Blk (w.alloc (.cells #[.int .i64 0, .string ⟨#[]⟩] 34)) w.heap.size 34 #[.int .i64 0, .string ⟨#[]⟩] := Blk.new w _ _
theorem getD_at (s : ByteArray) (a : Nat) (h : a < s.size) : s.data.toList.getD a 0 = s[a] := by
  have h' : a < s.data.toList.length := by rw [len_of]; exact h
  rw [List.getD_eq_getElem?_getD, List.getElem?_eq_getElem h']
  rfl

set_option maxRecDepth 100000 in
set_option maxHeartbeats 1000000 in
theorem ref_Get_few (s : ByteArray) (a : Int) (ha : a < 0 ∨ (s.size : Int) ≤ a) (w : World) :
    Calls Tryz.prog 46 #[.string s, .int .i64 a] w (FGetEnds s a w) := by
  by_cases h0 : a < 0
  · have HE := Lib.hid (fget_arg (l := s.data.toList) (.inl h0))
    go_enter Tryz.func46, Tryz.ntmps46
    go_wp2_with fail
    refine bodyPost_ret (v := .tuple #[.agg #[.int .i64 0, .string ⟨#[]⟩], .int .i64 a, .int .i64 1]) (by simp [results, Tryz.results46, go_sem]) rfl ?_
    exact FGetEnds.mk HE.out rfl ((Below.refl _ _).alloc (Nat.le_refl _) _)
  · by_cases h1 : (s.size : Int) < a
    · have HE := Lib.hid (fget_arg (l := s.data.toList) (a := a) (.inr (by rw [len_of]; exact h1)))
      have h2 : 0 ≤ a := by omega
      go_enter Tryz.func46, Tryz.ntmps46
      go_wp2_with fail
      refine bodyPost_ret (v := .tuple #[.agg #[.int .i64 0, .string ⟨#[]⟩], .int .i64 a, .int .i64 1]) (by simp [results, Tryz.results46, go_sem]) rfl ?_
      exact FGetEnds.mk HE.out rfl ((Below.refl _ _).alloc (Nat.le_refl _) _)
    · obtain rfl : a = (s.size : Int) := by omega
      have HE := Lib.hid (show fget s.data.toList (s.size : Int) = ((0, []), (s.size : Int), 2) by have := fget_end (l := s.data.toList); rw [len_of] at this; exact this)
      go_enter Tryz.func46, Tryz.ntmps46
      go_wp2_with fail
      refine bodyPost_ret (v := .tuple #[.agg #[.int .i64 0, .string ⟨#[]⟩], .int .i64 s.size, .int .i64 2]) (by simp [results, Tryz.results46, go_sem]) rfl ?_
      exact FGetEnds.mk HE.out rfl ((Below.refl _ _).alloc (Nat.le_refl _) _)

set_option maxRecDepth 100000 in
set_option maxHeartbeats 1000000 in
theorem ref_Get_err (s : ByteArray) (a : Nat) (hs : s.size ≤ 1073741824) (ha : a < s.size) (n : Nat) (b c : Int) (hl : lget s.data.toList ((a : Int) + 1) = (n, b, c)) (w : World)
    (hbad : c ≠ 0 ∨ 1048576 < n ∨ (s.size : Int) - b < n + 4) :
    Calls Tryz.prog 46 #[.string s, .int .i64 a] w (FGetEnds s a w) := by
  have i0 : (0 : Int) ≤ (a : Int) := by omega
  have i1 : (a : Int) < (s.size : Int) := by omega
  have l1 : (a : Int) < s.data.toList.length := by rw [len_of]; exact i1
  have hw : IntKind.i64.wrap ((a : Int) + 1) = (a : Int) + 1 := IntWalk.i64_in _ (by omega)
  have bZ := z2_new w
  have hB0 : Below w.heap.size w (w.alloc (.cells #[.int .i64 0, .string ⟨#[]⟩] 34)) := (Below.refl _ _).alloc (Nat.le_refl _) _
  have HG := Lib.hid (fun W => ref_get_any s ((a : Int) + 1) hs W)
  by_cases hc : c ≠ 0
  · have HE := Lib.hid (fget_num i0 l1 hl hc)
    have e0 : (c == 0) = false := by simpa using hc
    have e1 : (c != 0) = true := by simpa using hc
    clear hc
    have HL := Lib.hid hl
    clear hl hbad
    go_enter Tryz.func46, Tryz.ntmps46
    go_wp2_with fail
    refine (HG.out _).mono ?_
    intro e w1 hq
    obtain ⟨rfl, hb1⟩ := hq.to HL.out
    have bZ1 := bZ.below hb1 bZ.lt
    have hB1 := hB0.trans (hb1.mono hB0.size)
    obtain ⟨z0, z1⟩ := bZ1.two
    have zf := bZ1.frozen
    clear hq hb1 HG
    go_wp2_with fail
    refine bodyPost_ret (v := .tuple #[.agg #[.int .i64 0, .string ⟨#[]⟩], .int .i64 a, .int .i64 c]) (by simp [results, Tryz.results46, go_sem, z0, z1]) rfl ?_
    exact FGetEnds.mk HE.out rfl ((hB1.setCell (p := ⟨w.heap.size, 0, none⟩) (Nat.le_refl _) _).setCell (p := ⟨w.heap.size, 1, none⟩) (Nat.le_refl _) _)
  · obtain rfl : c = 0 := by simpa using hc
    clear hc
    obtain ⟨g1, g2, g3, -⟩ := lget_only s.data.toList ((a : Int) + 1) (by rw [hl])
    rw [hl, len_of] at g3
    rw [hl] at g2
    simp only at g2 g3
    by_cases hn : 1048576 < n
    · have HE := Lib.hid (fget_large i0 l1 hl hn)
      have hn2 : (1048576 : Int) < (n : Int) := by omega
      have HL := Lib.hid hl
      clear hl hbad
      go_enter Tryz.func46, Tryz.ntmps46
      go_wp2_with fail
      refine (HG.out _).mono ?_
      intro e w1 hq
      obtain ⟨rfl, hb1⟩ := hq.to HL.out
      have bZ1 := bZ.below hb1 bZ.lt
      have hB1 := hB0.trans (hb1.mono hB0.size)
      obtain ⟨z0, z1⟩ := bZ1.two
      have zf := bZ1.frozen
      clear hq hb1 HG
      go_wp2_with fail
      refine bodyPost_ret (v := .tuple #[.agg #[.int .i64 0, .string ⟨#[]⟩], .int .i64 a, .int .i64 4]) (by simp [results, Tryz.results46, go_sem, z0, z1]) rfl ?_
      exact FGetEnds.mk HE.out rfl ((hB1.setCell (p := ⟨w.heap.size, 0, none⟩) (Nat.le_refl _) _).setCell (p := ⟨w.heap.size, 1, none⟩) (Nat.le_refl _) _)
    · have HE := Lib.hid (fget_short i0 l1 hl (by omega) (by rw [len_of]; omega))
      have hsh : (s.size : Int) - b < (n : Int) + 4 := by omega
      have hwn : IntKind.i64.wrap (n : Int) = (n : Int) := IntWalk.i64_in _ (by omega)
      have hn2 : (n : Int) ≤ 1048576 := by omega
      have HL := Lib.hid hl
      clear hl hbad
      go_enter Tryz.func46, Tryz.ntmps46
      go_wp2_with fail
      refine (HG.out _).mono ?_
      intro e w1 hq
      obtain ⟨rfl, hb1⟩ := hq.to HL.out
      have bZ1 := bZ.below hb1 bZ.lt
      have hB1 := hB0.trans (hb1.mono hB0.size)
      obtain ⟨z0, z1⟩ := bZ1.two
      have zf := bZ1.frozen
      clear hq hb1 HG
      go_wp2_with fail
      refine bodyPost_ret (v := .tuple #[.agg #[.int .i64 0, .string ⟨#[]⟩], .int .i64 a, .int .i64 2]) (by simp [results, Tryz.results46, go_sem, z0, z1]) rfl ?_
      exact FGetEnds.mk HE.out rfl ((hB1.setCell (p := ⟨w.heap.size, 0, none⟩) (Nat.le_refl _) _).setCell (p := ⟨w.heap.size, 1, none⟩) (Nat.le_refl _) _)

set_option maxRecDepth 100000 in
set_option maxHeartbeats 2000000 in
theorem ref_Get_all (s : ByteArray) (a : Nat) (hs : s.size ≤ 1073741824) (ha : a < s.size) (n q : Nat) (hl : lget s.data.toList ((a : Int) + 1) = (n, (q : Int), 0)) (w : World) (hn : n ≤ 1048576) (hq : q + n + 4 ≤ s.size) :
    Calls Tryz.prog 46 #[.string s, .int .i64 a] w (FGetEnds s a w) := by
  have i0 : (0 : Int) ≤ (a : Int) := by omega
  have i1 : (a : Int) < (s.size : Int) := by omega
  have hw : IntKind.i64.wrap ((a : Int) + 1) = (a : Int) + 1 := IntWalk.i64_in _ (by omega)
  obtain ⟨g1, g2, g3, -⟩ := lget_only s.data.toList ((a : Int) + 1) (by rw [hl])
  rw [hl, len_of] at g3
  rw [hl] at g2
  simp only at g2 g3
  have bZ := z2_new w
  have hB0 : Below w.heap.size w (w.alloc (.cells #[.int .i64 0, .string ⟨#[]⟩] 34)) := (Below.refl _ _).alloc (Nat.le_refl _) _
  have HG := Lib.hid (fun W => ref_get_any s ((a : Int) + 1) hs W)
  have hwn : IntKind.i64.wrap (n : Int) = (n : Int) := IntWalk.i64_in _ (by omega)
  have hn2 : (n : Int) ≤ 1048576 := by omega
  have hlong : (n : Int) + 4 ≤ (s.size : Int) - (q : Int) := by omega
  have w1 : IntKind.i64.wrap ((q : Int) + (n : Int)) = (q : Int) + (n : Int) := IntWalk.i64_in _ (by omega)
  have w2 : IntKind.i64.wrap ((q : Int) + (n : Int) + 4) = (q : Int) + (n : Int) + 4 := IntWalk.i64_in _ (by omega)
  have b1 : (a : Int) ≤ (q : Int) + (n : Int) := by omega
  have b2 : (q : Int) + (n : Int) ≤ (s.size : Int) := by omega
  have b3 : (0 : Int) ≤ (q : Int) + (n : Int) := by omega
  have b4 : (q : Int) + (n : Int) ≤ (q : Int) + (n : Int) + 4 := by omega
  have b5 : (q : Int) + (n : Int) + 4 ≤ (s.size : Int) := by omega
  have b6 : (0 : Int) ≤ (q : Int) := by omega
  have b7 : (q : Int) ≤ (q : Int) + (n : Int) := by omega
  have e1 : ((q : Int) + (n : Int)).toNat = q + n := by omega
  have e2 : ((q : Int) + (n : Int) + 4).toNat = q + n + 4 := by omega
  have hx1 := extract_str s a (q + n)
  have hx2 := extract_str s (q + n) (q + n + 4)
  have hx3 := extract_str s q (q + n)
  rw [show q + n + 4 - (q + n) = 4 by omega] at hx2
  rw [show q + n - q = n by omega] at hx3
  have HT := Lib.hid (fun W => Crc.ref_Tail_any (s.extract a (q + n)) (by rw [ByteArray.size_extract]; omega) W)
  rw [hx1, str_list] at HT
  rw [← hx1] at HT
  have HX3 := Lib.hid hx3
  by_cases ht : Crc.tail ((s.data.toList.drop a).take (q + n - a)) = (s.data.toList.drop (q + n)).take 4
  · have HE := Lib.hid (fget_ok (by rw [len_of]; exact ha) hl hn (by rw [len_of]; exact hq) ht)
    rw [getD_at s a ha] at HE
    have hby := s[a].toNat_lt
    have hwb : IntKind.i64.wrap (s[a].toNat : Int) = (s[a].toNat : Int) := IntWalk.i64_in _ (by omega)
    have hwc := (IntWalk.i64_left _).symm.trans hwb
    rw [ht] at HT
    have hcmp : (⟨((s.data.toList.drop (q + n)).take 4).toArray⟩ : ByteArray) = s.extract (q + n) (q + n + 4) := hx2.symm
    rw [hcmp] at HT
    have HL := Lib.hid hl
    clear hl ht hx1 hx2 hx3 hcmp
    go_enter Tryz.func46, Tryz.ntmps46
    go_wp2_with fail
    refine (HG.out _).mono ?_
    intro e w1 hq
    obtain ⟨rfl, hb1⟩ := hq.to HL.out
    have bZ1 := bZ.below hb1 bZ.lt
    have hB1 := hB0.trans (hb1.mono hB0.size)
    obtain ⟨z0, z1⟩ := bZ1.two
    have zf := bZ1.frozen
    clear hq hb1 HG
    go_wp2_with fail
    go_region_held3 (fun _ => True) (trivial) (first | (go_at_call 20; (with_reducible refine (HT.out _).mono ?_); rintro e w2 ⟨rfl, hb2⟩))
    have bZ2 : Blk w2 w.heap.size _ _ := bZ1.drew.below hb2 bZ1.lt
    have hB2 := hB1.drew.trans (hb2.mono hB1.size)
    obtain ⟨y0, y1⟩ := bZ2.two
    have yf := bZ2.frozen
    clear z0 z1 zf
    go_wp2_with fail
    go_region
    all_goals go_wp2_with fail
    all_goals refine bodyPost_ret (v := .tuple #[.agg #[.int .i64 s[a].toNat, .string (s.extract q (q + n))], .int .i64 ((q : Int) + n + 4), .int .i64 0]) (by simp [results, Tryz.results46, go_sem, y0, y1]) rfl ?_
    all_goals refine FGetEnds.mk HE.out HX3.out ?_
    all_goals exact (((hB2.setCell (p := ⟨w.heap.size, 0, none⟩) (Nat.le_refl _) _).setCell (p := ⟨w.heap.size, 1, none⟩) (Nat.le_refl _) _)).drew
  · have HE := Lib.hid (fget_sum (by rw [len_of]; exact ha) hl hn (by rw [len_of]; exact hq) ht)
    have hne : (Crc.tail ((s.data.toList.drop a).take (q + n - a)) == (s.extract (q + n) (q + n + 4)).toList) = false := by
      rw [beq_eq_false_iff_ne, hx2, ByteArray.toList_eq, str_list]; exact ht
    obtain ⟨T, hT⟩ : ∃ T, Crc.tail ((s.data.toList.drop a).take (q + n - a)) = T := ⟨_, rfl⟩
    rw [hT] at HT hne
    have HL := Lib.hid hl
    clear hl ht hx1 hx2 hx3 hT
    go_enter Tryz.func46, Tryz.ntmps46
    go_wp2_with fail
    refine (HG.out _).mono ?_
    intro e w1 hq
    obtain ⟨rfl, hb1⟩ := hq.to HL.out
    have bZ1 := bZ.below hb1 bZ.lt
    have hB1 := hB0.trans (hb1.mono hB0.size)
    obtain ⟨z0, z1⟩ := bZ1.two
    have zf := bZ1.frozen
    clear hq hb1 HG
    go_wp2_with fail
    go_region_held3 (fun _ => True) (trivial) (first | (go_at_call 20; (with_reducible refine (HT.out _).mono ?_); rintro e w2 ⟨rfl, hb2⟩))
    have bZ2 : Blk w2 w.heap.size _ _ := bZ1.drew.below hb2 bZ1.lt
    have hB2 := hB1.drew.trans (hb2.mono hB1.size)
    obtain ⟨y0, y1⟩ := bZ2.two
    have yf := bZ2.frozen
    clear z0 z1 zf
    go_wp2_with fail
    refine bodyPost_ret (v := .tuple #[.agg #[.int .i64 0, .string ⟨#[]⟩], .int .i64 a, .int .i64 6]) (by simp [results, Tryz.results46, go_sem, y0, y1]) rfl ?_
    exact FGetEnds.mk HE.out rfl ((hB2.setCell (p := ⟨w.heap.size, 0, none⟩) (Nat.le_refl _) _).setCell (p := ⟨w.heap.size, 1, none⟩) (Nat.le_refl _) _)

/-- What stands at a place, the document's way. -/
theorem ref_Get_frame (s : ByteArray) (a : Int) (hs : s.size ≤ 1073741824) (w : World) : Calls Tryz.prog 46 #[.string s, .int .i64 a] w (FGetEnds s a w) := by
  by_cases h : a < 0 ∨ (s.size : Int) ≤ a
  · exact ref_Get_few s a h w
  · obtain ⟨k, rfl⟩ := Int.eq_ofNat_of_zero_le (show 0 ≤ a by omega)
    have hk : k < s.size := by omega
    obtain ⟨⟨n, b, c⟩, hl⟩ : ∃ t, lget s.data.toList ((k : Int) + 1) = t := ⟨_, rfl⟩
    by_cases hbad : c ≠ 0 ∨ 1048576 < n ∨ (s.size : Int) - b < n + 4
    · exact ref_Get_err s k hs hk n b c hl w hbad
    · obtain rfl : c = 0 := by omega
      obtain ⟨g1, g2, g3, -⟩ := lget_only s.data.toList ((k : Int) + 1) (by rw [hl])
      rw [hl] at g2
      simp only at g2
      obtain ⟨q, rfl⟩ := Int.eq_ofNat_of_zero_le (show 0 ≤ b by omega)
      exact ref_Get_all s k hs hk n q hl w (by omega) (by omega)

end Go.Proofs.YtfjdbbhaigjbmaaGreat.Frame

namespace Go.Proofs.YtfjdbbhaigjbmaaGreat.Frame
open Go.RowKit Leb Mem

set_option maxRecDepth 100000 in
theorem unless_any (b : Bool) (x : Int) (w : World) : Calls Tryz.prog 51 #[.bool b, .int .i64 x] w fun e w' => e = .returned (.int .i64 (if b then 0 else x)) ∧ w' = w := by
  cases b
  all_goals
    go_enter Tryz.func51, Tryz.ntmps51
    go_wp2
    go_ret
    exact ⟨rfl, rfl⟩

set_option maxRecDepth 100000 in
/-- Closures in a row, asked one by one: each meets what the ones ahead of it left. -/
theorem first_any (fs : List (FuncId × Array Value)) (g c : Nat) (J : Nat → World → Prop) (E : Int → World → Prop)
    (hrow : ∀ i f cs, fs[i]? = some (f, cs) → ∀ w, J i w → w.cell? ⟨g, i, none⟩ = some (.func (.func f) #[] cs))
    (hask : ∀ i f cs, fs[i]? = some (f, cs) → ∀ w, J i w → Calls Tryz.prog f cs w fun e w' => ∃ er, e = .returned (.int .i64 er) ∧ ((er = 0 ∧ J (i + 1) w') ∨ (er ≠ 0 ∧ E er w')))
    (hent : ∀ (i : Nat) f cs, fs[i]? = some (f, cs) → ∀ w, (callFunc f cs).run Tryz.prog w = .ok (.enter f cs) w)
    (hn : fs.length < 1000) (w : World) (h0 : J 0 w) :
    Calls Tryz.prog 49 #[.slice (some ⟨g, 0, none⟩) fs.length c] w fun e w' => ∃ er, e = .returned (.int .i64 er) ∧ ((er = 0 ∧ J fs.length w') ∨ (er ≠ 0 ∧ E er w')) := by
  go_enter Tryz.func49, Tryz.ntmps49
  go_wp2
  have HR := Lib.hid hrow
  have HK := Lib.hid hask
  have HE := Lib.hid hent
  clear hrow hask hent
  go_loopw [8] (fun i wr => ∃ k : Nat, k ≤ fs.length ∧ i = .int .i64 k ∧ J k wr) (fun i _ => fs.length - (intOf i).toNat)
  case atStart => exact ⟨0, by omega, rfl, h0⟩
  case round =>
    obtain ⟨k, hk, rfl, hJ⟩ := hrel
    by_cases hlt : k < fs.length
    · obtain ⟨⟨f, cs⟩, hf⟩ : ∃ x, fs[k]? = some x := ⟨_, List.getElem?_eq_getElem hlt⟩
      have hc := HR.out k f cs hf wr hJ
      have hcall := Lib.hid (HK.out k f cs hf wr hJ)
      have hent := HE.out k f cs hf
      clear hf
      go_wp2_with ((refine hcall.out.mono ?_); (rintro e w' ⟨er, rfl, (⟨rfl, hJ'⟩ | ⟨hne, hE⟩)⟩))
      · go_wp2
        go_roundw
        case rel => exact ⟨k + 1, by omega, by go_num, hJ'⟩
        case measure => simp [intOf]; omega
      · have hb : (er != 0) = true := by simpa using hne
        have HN := Lib.hid hne
        clear hne
        go_wp2
        go_ret
        exact ⟨er, rfl, .inr ⟨HN.out, hE⟩⟩
    · have hkk : k = fs.length := by omega
      have hlt' : decide ((k : Int) < (fs.length : Int)) = false := decide_eq_false (by omega)
      go_wp2
      go_ret
      exact ⟨0, rfl, .inl ⟨rfl, hkk ▸ hJ⟩⟩

end Go.Proofs.YtfjdbbhaigjbmaaGreat.Frame

namespace Go.Proofs.YtfjdbbhaigjbmaaGreat.Frame
open Go.RowKit Leb Mem

set_option maxRecDepth 100000 in
set_option maxHeartbeats 1000000 in
theorem Head_any (t : Int) (d : ByteArray) (hd : d.size ≤ 1073741824) (w : World) :
    Calls Tryz.prog 42 #[.agg #[.int .i64 t, .string d]] w fun e w' => e = .returned (.string (str (head t d.data.toList))) ∧ Below w.heap.size w w' := by
  have kc := conv_one (P := Tryz.prog) 60 5 Tryz.underlying60 Tryz.underlying5 (IntKind.u8.wrap t) 9 Tryz.underlying9
  have hu := u64_size hd
  have hp := lput_len10 (n := d.size) (by omega)
  have HP := Lib.hid (fun W => Leb.Put_any (d.size : Int) (by omega) (by omega) W)
  rw [Int.toNat_natCast] at HP
  have hz : (⟨(lput d.size).toArray⟩ : ByteArray).size ≤ 10 := by show (str (lput d.size)).size ≤ 10; rw [str_size]; exact hp
  have hq1 := fun W => run_string_add_sum (P := Tryz.prog) W (⟨#[UInt8.ofNat (IntKind.u8.wrap t).toNat]⟩ : ByteArray) (⟨(lput d.size).toArray⟩ : ByteArray) (by show 1 + _ ≤ _; omega)
  have HE := Lib.hid (show (⟨#[UInt8.ofNat (IntKind.u8.wrap t).toNat]⟩ : ByteArray) ++ ⟨(lput d.size).toArray⟩ = str (head t d.data.toList) by
    show str [b8 t] ++ str (lput d.size) = _
    rw [str_app]; unfold head; rw [len_of]; rfl)
  have hB0 : Below w.heap.size w (w.alloc (.cells #[.int .i64 t, .string d] 34)) := (Below.refl _ _).alloc (Nat.le_refl _) _
  go_enter Tryz.func42, Tryz.ntmps42
  go_wp2_with fail
  go_region_with (go_at_call 40; refine (HP.out _).mono ?_; rintro e w1 ⟨rfl, hb1⟩; obtain ⟨hc1, hf1⟩ := bcell hb1; have hz1 : w.heap.size ≤ w1.heap.size := by have := hb1.size; simp at this; omega)
  all_goals go_wp2
  all_goals go_ret
  all_goals refine ⟨by rw [← HE.out]; rfl, ?_⟩
  all_goals first
    | exact (hB0.alloc (by simp) _).drew.trans (hb1.mono (by simp; omega))
    | exact (hB0.drew.trans (hb1.mono (by simp))).alloc hz1 _
    | exact hB0.drew.trans (hb1.mono (by simp))

set_option maxRecDepth 100000 in
/-- The first closure of Put: the type. -/
theorem put1_any (t : Int) (d : ByteArray) (x : Nat) (w : World) (h : Blk w x 34 #[.int .i64 t, .string d]) :
    Calls Tryz.prog 50 #[.pointer (some ⟨x, 0, none⟩)] w fun e w' => e = .returned (.int .i64 (if 0 ≤ t ∧ t ≤ 255 then 0 else 1)) ∧ w' = w := by
  obtain ⟨h0, h1⟩ := h.two
  have HU := Lib.hid unless_any
  by_cases c0 : 0 ≤ t
  · by_cases c1 : t ≤ 255
    · rw [if_pos ⟨c0, c1⟩]
      go_enter Tryz.func50, Tryz.ntmps50
      go_wp2_with (go_at_call 51; refine (HU.out _ _ _).mono ?_; rintro e w1 ⟨rfl, rfl⟩)
      go_ret
      exact ⟨rfl, rfl⟩
    · rw [if_neg (fun q => c1 q.2)]
      go_enter Tryz.func50, Tryz.ntmps50
      go_wp2_with (go_at_call 51; refine (HU.out _ _ _).mono ?_; rintro e w1 ⟨rfl, rfl⟩)
      go_ret
      exact ⟨rfl, rfl⟩
  · rw [if_neg (fun q => c0 q.1)]
    go_enter Tryz.func50, Tryz.ntmps50
    go_wp2_with (go_at_call 51; refine (HU.out _ _ _).mono ?_; rintro e w1 ⟨rfl, rfl⟩)
    go_ret
    exact ⟨rfl, rfl⟩

set_option maxRecDepth 100000 in
/-- The second one: how many bytes. -/
theorem put2_any (t : Int) (d : ByteArray) (x : Nat) (w : World) (h : Blk w x 34 #[.int .i64 t, .string d]) :
    Calls Tryz.prog 52 #[.pointer (some ⟨x, 0, none⟩)] w fun e w' => e = .returned (.int .i64 (if d.size ≤ 1048576 then 0 else 4)) ∧ w' = w := by
  obtain ⟨h0, h1⟩ := h.two
  have HU := Lib.hid unless_any
  by_cases c0 : d.size ≤ 1048576
  · rw [if_pos c0]
    go_enter Tryz.func52, Tryz.ntmps52
    go_wp2_with (go_at_call 51; refine (HU.out _ _ _).mono ?_; rintro e w1 ⟨rfl, rfl⟩)
    go_ret
    exact ⟨rfl, rfl⟩
  · rw [if_neg c0]
    go_enter Tryz.func52, Tryz.ntmps52
    go_wp2_with (go_at_call 51; refine (HU.out _ _ _).mono ?_; rintro e w1 ⟨rfl, rfl⟩)
    go_ret
    exact ⟨rfl, rfl⟩

end Go.Proofs.YtfjdbbhaigjbmaaGreat.Frame

namespace Go.Proofs.YtfjdbbhaigjbmaaGreat.Frame
open Go.RowKit Leb Mem

set_option maxRecDepth 100000 in
/-- What the row of closures of Put comes to. -/
theorem put_first (t : Int) (d : ByteArray) (x g c : Nat) (w : World) (h : Blk w x 34 #[.int .i64 t, .string d])
    (hg : Blk w g 72 #[.func (.func 50) #[] #[.pointer (some ⟨x, 0, none⟩)], .func (.func 52) #[] #[.pointer (some ⟨x, 0, none⟩)]]) :
    Calls Tryz.prog 49 #[.slice (some ⟨g, 0, none⟩) 2 c] w fun e w' => e = .returned (.int .i64 (fPut t d.data.toList).2) ∧ w' = w := by
  have hx1 : fPut t d.data.toList = if 0 ≤ t ∧ t ≤ 255 then (if d.size ≤ 1048576 then (fput t d.data.toList, 0) else ([], 4)) else ([], 1) := by
    unfold fPut
    rw [len_of]
    by_cases q : 0 ≤ t ∧ t ≤ 255
    · rw [if_pos q, if_neg (by omega)]
      by_cases q2 : d.size ≤ 1048576
      · rw [if_pos q2, if_neg (by omega)]
      · rw [if_neg q2, if_pos (by omega)]
    · rw [if_neg q, if_pos (by omega)]
  refine (first_any [(50, #[.pointer (some ⟨x, 0, none⟩)]), (52, #[.pointer (some ⟨x, 0, none⟩)])] g c
    (fun i W => W = w ∧ (1 ≤ i → 0 ≤ t ∧ t ≤ 255) ∧ (2 ≤ i → d.size ≤ 1048576)) (fun er W => W = w ∧ (fPut t d.data.toList).2 = er) ?_ ?_ ?_ (by simp) w ⟨rfl, by omega, by omega⟩).mono ?_
  · rintro i f cs hf W ⟨rfl, -, -⟩
    rcases i with _ | _ | i
    · simp at hf; obtain ⟨rfl, rfl⟩ := hf; exact hg.cell 0
    · simp at hf; obtain ⟨rfl, rfl⟩ := hf; exact hg.cell 1
    · simp at hf
  · rintro i f cs hf W ⟨rfl, h1, h2⟩
    rcases i with _ | _ | i
    · simp at hf; obtain ⟨rfl, rfl⟩ := hf
      refine (put1_any t d x _ h).mono ?_
      rintro e w' ⟨rfl, rfl⟩
      refine ⟨_, rfl, ?_⟩
      by_cases q : 0 ≤ t ∧ t ≤ 255
      · rw [if_pos q]; exact .inl ⟨rfl, rfl, fun _ => q, by omega⟩
      · rw [if_neg q]; exact .inr ⟨by omega, rfl, by rw [hx1, if_neg q]⟩
    · simp at hf; obtain ⟨rfl, rfl⟩ := hf
      refine (put2_any t d x _ h).mono ?_
      rintro e w' ⟨rfl, rfl⟩
      refine ⟨_, rfl, ?_⟩
      have q1 := h1 (by omega)
      by_cases q : d.size ≤ 1048576
      · rw [if_pos q]; exact .inl ⟨rfl, rfl, fun _ => q1, fun _ => q⟩
      · rw [if_neg q]; exact .inr ⟨by omega, rfl, by rw [hx1, if_pos q1, if_neg q]⟩
    · simp at hf
  · intro i f cs hf W
    rcases i with _ | _ | i
    · simp at hf; obtain ⟨rfl, rfl⟩ := hf; rfl
    · simp at hf; obtain ⟨rfl, rfl⟩ := hf; rfl
    · simp at hf
  · rintro e w' ⟨er, rfl, (⟨rfl, rfl, h1, h2⟩ | ⟨-, rfl, h1⟩)⟩
    · exact ⟨by rw [hx1, if_pos (h1 (by simp)), if_pos (h2 (by simp))], rfl⟩
    · exact ⟨by rw [h1], rfl⟩

set_option maxRecDepth 100000 in
set_option maxHeartbeats 1000000 in
theorem Put_any (t : Int) (d : ByteArray) (hd : d.size ≤ 1073741824) (w : World) :
    Calls Tryz.prog 37 #[.agg #[.int .i64 t, .string d]] w (PutEnds t d w) := by
  have hB0 : Below w.heap.size w (w.alloc (.cells #[.int .i64 t, .string d] 34)) := (Below.refl _ _).alloc (Nat.le_refl _) _
  have bP := Blk.new w 34 #[.int .i64 t, .string d]
  have bG := Blk.new (w.alloc (.cells #[.int .i64 t, .string d] 34)) 72 #[.func (.func 50) #[] #[.pointer (some ⟨w.heap.size, 0, none⟩)], .func (.func 52) #[] #[.pointer (some ⟨w.heap.size, 0, none⟩)]]
  rw [World.size_alloc] at bG
  have bP1 := bP.alloc (.cells #[.func (.func 50) #[] #[.pointer (some ⟨w.heap.size, 0, none⟩)], .func (.func 52) #[] #[.pointer (some ⟨w.heap.size, 0, none⟩)]] 72)
  have hB1 := hB0.alloc (by simp) (.cells #[.func (.func 50) #[] #[.pointer (some ⟨w.heap.size, 0, none⟩)], .func (.func 52) #[] #[.pointer (some ⟨w.heap.size, 0, none⟩)]] 72)
  have HF1 := Lib.hid (put_first t d w.heap.size (w.heap.size + 1) 2 _ bP1 bG)
  by_cases hz : (fPut t d.data.toList).2 = 0
  · have HE : fPut t d.data.toList = (fput t d.data.toList, 0) ∧ d.size ≤ 1048576 := by
      unfold fPut at hz ⊢
      rw [len_of] at hz ⊢
      by_cases q : t < 0 ∨ 255 < t
      · rw [if_pos q] at hz; simp at hz
      · rw [if_neg q] at hz ⊢
        by_cases q2 : 1048576 < d.size
        · rw [if_pos q2] at hz; simp at hz
        · rw [if_neg q2]; exact ⟨rfl, by omega⟩
    obtain ⟨HE, h2⟩ := HE
    have HE := Lib.hid HE
    rw [hz] at HF1
    have hp := lput_len10 (n := d.size) (by omega)
    have HH := Lib.hid (fun W => Head_any t d hd W)
    obtain ⟨H, hH⟩ : ∃ H, head t d.data.toList = H := ⟨_, rfl⟩
    have hHl : H.length ≤ 11 := by rw [← hH, head_len, len_of]; omega
    rw [hH] at HH
    have hHs : (str H).size ≤ 11 := by rw [str_size]; exact hHl
    have hbs : (str (H ++ d.data.toList)).size ≤ 1048587 := by rw [str_size, List.length_append, len_of]; omega
    have HTl := Lib.hid (fun W => Crc.Tail_any (str (H ++ d.data.toList)) (by omega) W)
    rw [str_list] at HTl
    obtain ⟨T, hT⟩ : ∃ T, Crc.tail (H ++ d.data.toList) = T := ⟨_, rfl⟩
    have hTl : (str T).size = 4 := by rw [str_size, ← hT]; rfl
    rw [hT] at HTl
    have HF := Lib.hid (show str (H ++ d.data.toList) ++ str T = str (fput t d.data.toList) by rw [str_app]; unfold fput; rw [hH, hT])
    have HS := Lib.hid (show str H ++ d = str (H ++ d.data.toList) by conv => lhs; rw [← str_of d, str_app])
    have hTz : (str T).size ≤ 4 := by omega
    clear hH hT hTl hz
    have hq1 := fun W => run_string_add_sum (P := Tryz.prog) W (str H) d (by omega)
    have hq2 := fun W => run_string_add_sum (P := Tryz.prog) W (str (H ++ d.data.toList)) (str T) (by omega)
    go_enter Tryz.func37, Tryz.ntmps37
    go_wp2_with fail
    refine HF1.out.mono ?_
    rintro e w1 ⟨rfl, rfl⟩
    clear HF1 hB0 bP bG
    generalize (w.alloc (.cells #[.int .i64 t, .string d] 34)).alloc (.cells #[.func (.func 50) #[] #[.pointer (some ⟨w.heap.size, 0, none⟩)], .func (.func 52) #[] #[.pointer (some ⟨w.heap.size, 0, none⟩)]] 72) = W at *
    obtain ⟨hc0, hc1⟩ := bP1.two
    have hBd := hB1.drew
    have hwl := bP1.lt
    have HWL := Lib.hid (show w.heap.size < W.drew.heap.size from hwl)
    go_wp2_with fail
    go_region_held3 (fun w' => w'.cell? ⟨w.heap.size, 0, none⟩ = some (.int .i64 t) ∧ w'.cell? ⟨w.heap.size, 1, none⟩ = some (.string d)) (first | exact ⟨hc0, hc1⟩ | exact ⟨hk0, hk1⟩ | go_keep)
      (first | (go_at_call 42; (with_reducible refine (HH.out _).mono ?_); rintro e w1 ⟨rfl, hb1⟩; have hk0 := (hb1.cell (p := ⟨w.heap.size, 0, none⟩) HWL.out).trans hc0; have hk1 := (hb1.cell (p := ⟨w.heap.size, 1, none⟩) HWL.out).trans hc1; have hB1 := hBd.trans (hb1.mono hBd.size)))
    clear hc0 hc1 hk0 hk1 hq1
    rw [HS.out]
    go_wp2_with fail
    refine (HTl.out _).mono ?_
    rintro e w2 ⟨rfl, hb2⟩
    rw [show (⟨T.toArray⟩ : ByteArray) = str T from rfl]
    go_wp2_with fail
    go_ret2
    exact PutEnds.mk HE.out HF.out (hB1.trans (hb2.mono hB1.size))
  · obtain ⟨⟨r, er⟩, hr⟩ : ∃ q, fPut t d.data.toList = q := ⟨_, rfl⟩
    have hr0 : r = [] := by
      unfold fPut at hr hz
      by_cases q : t < 0 ∨ 255 < t
      · rw [if_pos q] at hr; exact (congrArg Prod.fst hr).symm
      · rw [if_neg q] at hr hz
        by_cases q2 : 1048576 < d.data.toList.length
        · rw [if_pos q2] at hr; exact (congrArg Prod.fst hr).symm
        · rw [if_neg q2] at hz; exact absurd rfl hz
    subst hr0
    rw [hr] at HF1 hz
    have e1 : (er != 0) = true := by simpa using hz
    have HE := Lib.hid hr
    clear hr hz
    go_enter Tryz.func37, Tryz.ntmps37
    go_wp2_with fail
    refine HF1.out.mono ?_
    rintro e w1 ⟨rfl, rfl⟩
    go_wp2_with fail
    go_ret2
    exact PutEnds.mk HE.out rfl hB1

end Go.Proofs.YtfjdbbhaigjbmaaGreat.Frame
