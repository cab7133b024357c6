/-
  The reference of containers, walked: what is opened.
-/
import Derived.Test.YtfjdbbhaigjbmaaGreatContFrames
import Derived.BigQuiet
namespace Go.Proofs.YtfjdbbhaigjbmaaGreat.Cont
open Go.RowKit Leb Mem _root_.Go.Proofs.YtfjdbbhaigjbmaaGreat.Frame

/-- What opening comes to. -/
def OpenEnds (l : List UInt8) (w : World) (e : Ending) (w' : World) : Prop :=
  Below w.heap.size w w' ∧ ∃ (A : Option Addr) (cap : Nat) (ys : List Sect), openC l = (secs ys, (openC l).2) ∧ e = .returned (.tuple #[.slice A ys.length cap, .int .i64 (openC l).2]) ∧ Sects w' w'.heap.size A ys ∧ (A = none → ys = [])
theorem OpenEnds.none {l : List UInt8} {w w' : World} {c : Int} (h : openC l = ([], c)) (hb : Below w.heap.size w w') : OpenEnds l w (.returned (.tuple #[.slice none 0 0, .int .i64 c])) w' :=
  ⟨hb, .none, 0, [], by rw [h]; rfl, by rw [h]; rfl, fun i x hx => by simp at hx, fun _ => rfl⟩

/-! ### The ways through -/
section
variable {l : List UInt8}
theorem open_large (h : 1048576 < l.length) : openC l = ([], 4) := by unfold openC; rw [if_pos h]
theorem open_magic (h : ¬ 1048576 < l.length) (h2 : l.length < 15 ∨ l.take 7 ≠ magic ∨ l.drop (l.length - 4) ≠ theEnd) : openC l = ([], 7) := by unfold openC; rw [if_neg h, if_pos h2]
theorem open_place {n : Nat} (h : ¬ 1048576 < l.length) (h2 : ¬ (l.length < 15 ∨ l.take 7 ≠ magic ∨ l.drop (l.length - 4) ≠ theEnd)) (hn : num ((l.drop (l.length - 8)).take 4) = n) (h3 : n < 7 ∨ l.length - 8 < n) : openC l = ([], 9) := by
  unfold openC; rw [if_neg h, if_neg h2, hn, if_pos h3]
theorem open_frame {n : Nat} (h : ¬ 1048576 < l.length) (h2 : ¬ (l.length < 15 ∨ l.take 7 ≠ magic ∨ l.drop (l.length - 4) ≠ theEnd)) (hn : num ((l.drop (l.length - 8)).take 4) = n) (h3 : ¬ (n < 7 ∨ l.length - 8 < n))
    (hg : gets (l.take n) n 7 = none) : openC l = ([], 8) := by
  unfold openC; rw [if_neg h, if_neg h2, hn, if_neg h3, hg]
theorem open_order {n : Nat} {r : List Sec} (h : ¬ 1048576 < l.length) (h2 : ¬ (l.length < 15 ∨ l.take 7 ≠ magic ∨ l.drop (l.length - 4) ≠ theEnd)) (hn : num ((l.drop (l.length - 8)).take 4) = n) (h3 : ¬ (n < 7 ∨ l.length - 8 < n))
    (hg : gets (l.take n) n 7 = some r) (ho : ord r = false) : openC l = ([], 20) := by
  unfold openC; rw [if_neg h, if_neg h2, hn, if_neg h3, hg]; simp only; rw [if_pos ho]
theorem open_index {n : Nat} {r : List Sec} (h : ¬ 1048576 < l.length) (h2 : ¬ (l.length < 15 ∨ l.take 7 ≠ magic ∨ l.drop (l.length - 4) ≠ theEnd)) (hn : num ((l.drop (l.length - 8)).take 4) = n) (h3 : ¬ (n < 7 ∨ l.length - 8 < n))
    (hg : gets (l.take n) n 7 = some r) (ho : ord r = true) (hi : l.drop n ≠ index r ++ Crc.tail (index r) ++ foot n) : openC l = ([], 9) := by
  unfold openC; rw [if_neg h, if_neg h2, hn, if_neg h3, hg]; simp only; rw [if_neg (by simp [ho]), if_pos hi]
theorem open_ok {n : Nat} {r : List Sec} (h : ¬ 1048576 < l.length) (h2 : ¬ (l.length < 15 ∨ l.take 7 ≠ magic ∨ l.drop (l.length - 4) ≠ theEnd)) (hn : num ((l.drop (l.length - 8)).take 4) = n) (h3 : ¬ (n < 7 ∨ l.length - 8 < n))
    (hg : gets (l.take n) n 7 = some r) (ho : ord r = true) (hi : l.drop n = index r ++ Crc.tail (index r) ++ foot n) : openC l = (r, 0) := by
  unfold openC; rw [if_neg h, if_neg h2, hn, if_neg h3, hg]; simp only; rw [if_neg (by simp [ho]), if_neg (by simp [hi])]
end

theorem secs_onto : ∀ r : List Sec, ∃ ys : List Sect, r = secs ys
  | [] => ⟨[], rfl⟩
  | x :: r => by
    obtain ⟨ys, h⟩ := secs_onto r
    exact ⟨⟨x.1, str x.2⟩ :: ys, by unfold secs at h ⊢; rw [List.map_cons, ← h]; simp only [str_list]⟩
theorem body_ge (l : List Sec) : (l.map (·.2.length)).sum + 6 * l.length ≤ (body l).length := by
  induction l with
  | nil => simp [body]
  | cons y l ih =>
    have h1 := size_eq y
    have h2 := head_len y.1 y.2
    have h3 := lput_pos y.2.length
    rw [body, List.length_append, show (fput y.1 y.2).length = size y from rfl]
    simp
    omega
theorem lim_of_gets {l : List UInt8} {n : Nat} {ys : List Sect} (hl : l.length ≤ 1048576) (hn : n ≤ l.length) (h7 : 7 ≤ n) (h : gets (l.take n) n 7 = some (secs ys)) : Lim ys := by
  have ht : (l.take n).length = n := by rw [List.length_take]; omega
  obtain ⟨h1, -⟩ := gets_only n (l.take n) 7 (secs ys) (by omega) (by omega) h
  have h2 := congrArg List.length h1
  rw [List.length_drop, ht] at h2
  have h3 := body_ge (secs ys)
  rw [total_secs, secs_len] at h3
  exact ⟨by omega, by omega⟩

set_option maxRecDepth 100000 in
set_option maxHeartbeats 4000000 in
theorem ref_Open_any (s : ByteArray) (hs : s.size ≤ 1073741824) (w : World) : Calls Tryz.prog 12 #[.string s] w (OpenEnds s.data.toList w) := by
  have hlen := len_of s
  by_cases c1 : 1048576 < s.size
  · have HE := Lib.hid (open_large (l := s.data.toList) (by omega))
    go_enter Tryz.func12, Tryz.ntmps12
    go_wp2_with fail
    go_ret2
    exact OpenEnds.none HE.out (Below.refl _ _)
  have k1 : ¬ 1048576 < s.data.toList.length := by omega
  by_cases c2 : s.size < 15
  · have HE := Lib.hid (open_magic k1 (.inl (by omega)))
    go_enter Tryz.func12, Tryz.ntmps12
    go_wp2_with fail
    go_ret2
    exact OpenEnds.none HE.out (Below.refl _ _)
  have h7 := extract_str s 0 7
  rw [List.drop_zero, Nat.sub_zero] at h7
  have h7i : (7 : Int) ≤ (s.size : Int) := by omega
  have m4 : IntKind.i64.wrap ((s.size : Int) - 4) = (s.size : Int) - 4 := IntWalk.i64_in _ (by omega)
  have m8 : IntKind.i64.wrap ((s.size : Int) - 8) = (s.size : Int) - 8 := IntWalk.i64_in _ (by omega)
  have h4 := extract_str s (s.size - 4) s.size
  rw [List.take_of_length_le (by rw [List.length_drop, len_of]; omega)] at h4
  obtain ⟨U7, hU7⟩ : ∃ U, s.extract 0 7 = U := ⟨_, rfl⟩
  obtain ⟨U4, hU4⟩ : ∃ U, s.extract (s.size - 4) s.size = U := ⟨_, rfl⟩
  rw [hU7] at h7
  rw [hU4] at h4
  have q7 : U7.toList = s.data.toList.take 7 := by rw [h7, ByteArray.toList_eq, str_list]
  have q4 : U4.toList = s.data.toList.drop (s.data.toList.length - 4) := by rw [h4, ByteArray.toList_eq, str_list, hlen]
  by_cases c3 : s.data.toList.take 7 ≠ magic
  · have HE := Lib.hid (open_magic k1 (.inr (.inl c3)))
    have b7 : (U7.toList == [77, 85, 84, 65, 82, 67, 1]) = false := by rw [beq_eq_false_iff_ne, q7]; exact c3
    clear h7 h4 q7 q4 c3 hlen k1
    go_enter Tryz.func12, Tryz.ntmps12
    go_wp2_with fail
    go_ret2
    exact OpenEnds.none HE.out (Below.refl _ _)
  have b7 : (U7.toList == [77, 85, 84, 65, 82, 67, 1]) = true := by rw [beq_iff_eq, q7]; exact Classical.not_not.1 c3
  by_cases c4 : s.data.toList.drop (s.data.toList.length - 4) ≠ theEnd
  · have HE := Lib.hid (open_magic k1 (.inr (.inr c4)))
    have b4 : (U4.toList == [69, 78, 68, 46]) = false := by rw [beq_eq_false_iff_ne, q4]; exact c4
    clear h7 h4 q7 q4 c3 c4 hlen k1
    go_enter Tryz.func12, Tryz.ntmps12
    go_wp2_with fail
    go_ret2
    exact OpenEnds.none HE.out (Below.refl _ _)
  have b4 : (U4.toList == [69, 78, 68, 46]) = true := by rw [beq_iff_eq, q4]; exact Classical.not_not.1 c4
  have k2 : ¬ (s.data.toList.length < 15 ∨ s.data.toList.take 7 ≠ magic ∨ s.data.toList.drop (s.data.toList.length - 4) ≠ theEnd) := by
    rintro (h | h | h)
    · omega
    · exact c3 h
    · exact c4 h
  obtain ⟨N8, hN8⟩ : ∃ U, s.extract (s.size - 8) (s.size - 4) = U := ⟨_, rfl⟩
  have h8 := extract_str s (s.size - 8) (s.size - 4)
  rw [hN8, show s.size - 4 - (s.size - 8) = 4 by omega] at h8
  have HNum := ref_number_any N8 (by rw [← hN8, ByteArray.size_extract]; omega)
  rw [h8, str_list, ← h8] at HNum
  obtain ⟨n, hn⟩ : ∃ n, num ((s.data.toList.drop (s.data.toList.length - 8)).take 4) = n := ⟨_, rfl⟩
  rw [← hlen, hn] at HNum
  have HNum := Lib.hid HNum
  have j1 : (0 : Int) ≤ (s.size : Int) - 8 := by omega
  have j2 : (s.size : Int) - 8 ≤ (s.size : Int) - 4 := by omega
  have j3 : (s.size : Int) - 4 ≤ (s.size : Int) := by omega
  have j4 : ((s.size : Int) - 8).toNat = s.size - 8 := by omega
  have j5 : ((s.size : Int) - 4).toNat = s.size - 4 := by omega
  clear h7 h4 q7 q4 c3 c4 h8
  by_cases c5 : n < 7 ∨ s.data.toList.length - 8 < n
  · have HE := Lib.hid (open_place k1 k2 hn c5)
    rw [hlen] at c5
    clear hlen k1 k2 hn
    by_cases c6 : n < 7
    · clear c5
      go_enter Tryz.func12, Tryz.ntmps12
      go_wp2_with (go_at_call 30; (with_reducible refine (HNum.out _).mono ?_); rintro e w1 ⟨rfl, hb1⟩)
      go_ret2
      exact OpenEnds.none HE.out hb1
    · have c7 : (s.size : Int) - 8 < (n : Int) := by omega
      clear c5
      go_enter Tryz.func12, Tryz.ntmps12
      go_wp2_with (go_at_call 30; (with_reducible refine (HNum.out _).mono ?_); rintro e w1 ⟨rfl, hb1⟩)
      go_ret2
      exact OpenEnds.none HE.out hb1
  have c6 : 7 ≤ n := by omega
  have c7 : (n : Int) ≤ (s.size : Int) - 8 := by omega
  have c8 : ¬ n < 7 := by omega
  have HFr := Lib.hid (fun W => ref_frames_any s hs n c6 (by omega) W)
  obtain ⟨r, hr⟩ : ∃ r, gets (s.data.toList.take n) n 7 = r := ⟨_, rfl⟩
  rw [hr] at HFr
  cases r with
  | none =>
    have HE := Lib.hid (open_frame k1 k2 hn c5 hr)
    clear hlen k1 k2 hn c5 hr
    go_enter Tryz.func12, Tryz.ntmps12
    go_wp2_with (first
      | (go_at_call 30; (with_reducible refine (HNum.out _).mono ?_); rintro e w1 ⟨rfl, hb1⟩)
      | (go_at_call 31; (with_reducible refine (HFr.out _).mono ?_); rintro e w2 ⟨hb2, (⟨-, rfl⟩ | ⟨A, cap, ys, h, -⟩)⟩; rotate_left; exact absurd h (by simp)))
    go_ret2
    exact OpenEnds.none HE.out (below2 hb1 hb2)
  | some r =>
    have hlim : ∀ ys : List Sect, r = secs ys → Lim ys := by
      rintro ys rfl
      exact lim_of_gets (l := s.data.toList) (n := n) (by omega) (by omega) c6 hr
    by_cases ho : ord r = false
    · have HE := Lib.hid (open_order k1 k2 hn c5 hr ho)
      clear hlen k1 k2 hn c5 hr
      go_enter Tryz.func12, Tryz.ntmps12
      go_wp2_with (first
        | (go_at_call 30; (with_reducible refine (HNum.out _).mono ?_); rintro e w1 ⟨rfl, hb1⟩)
        | (go_at_call 31; (with_reducible refine (HFr.out _).mono ?_); rintro e w2 ⟨hb2, (⟨h, -⟩ | ⟨A, cap, ys, h, rfl, hSec, hnil⟩)⟩; exact absurd h (by simp); obtain rfl := Option.some.inj h)
        | (go_at_call 17; refine (ordered_any A cap ys _ hSec (by have := (hlim ys rfl).1; unfold maxLen; omega)).mono ?_; rintro e w3 ⟨rfl, hb3⟩))
      go_ret2
      exact OpenEnds.none HE.out (below2 (below2 hb1 hb2) hb3)
    have ho' : ord r = true := by simpa using ho
    have hpos := ord_pos ho'
    have hix : (index r).length ≤ 490 := by
      obtain ⟨ys, hys⟩ : ∃ ys : List Sect, r = secs ys := secs_onto r
      have hl := hlim ys hys
      have hbl := body_lim hl ys.length
      rw [List.take_length, ← hys] at hbl
      have hyl : r.length = ys.length := by rw [hys, secs_len]
      have h1 := idx_len r 7 (by omega) (by have := hl.1; have := hl.2; omega)
      have h2 := lput_len10 (n := r.length) (by omega)
      unfold index
      rw [List.length_append]
      omega
    have hJs : (str (index r)).size ≤ 490 := by rw [str_size]; exact hix
    have HT := Lib.hid (fun W => Crc.ref_Tail_any (str (index r)) (by omega) W)
    rw [str_list] at HT
    change Hid (∀ W, Calls _ _ _ W fun e w' => e = .returned (.string (str (Crc.tail (index r)))) ∧ Below W.heap.size W w') at HT
    have hTs : (str (Crc.tail (index r))).size ≤ 4 := by rw [str_size, Crc.tail_len]; omega
    have HF := Lib.hid (fun W => ref_foot_any n (by omega) W)
    have hFs : (str (foot n)).size ≤ 8 := by rw [str_size, foot_len]; omega
    have HI := Lib.hid (fun A cap (ys : List Sect) (W : World) (h : r = secs ys) (hx : Sects W W.heap.size A ys) => show Calls Tryz.prog 10 #[.slice A ys.length cap] W fun e w' => e = .returned (.string (str (index r))) ∧ Below W.heap.size W w' by rw [h]; exact ref_Index_any A cap ys W hx (hlim ys h))
    have hV := extract_str s n s.size
    rw [List.take_of_length_le (by rw [List.length_drop, len_of]; omega)] at hV
    obtain ⟨V, hVV⟩ : ∃ V, s.extract n s.size = V := ⟨_, rfl⟩
    rw [hVV] at hV
    have hVl : V.toList = s.data.toList.drop n := by rw [hV, ByteArray.toList_eq, str_list]
    have hcat : str (index r) ++ str (Crc.tail (index r)) ++ str (foot n) = str (index r ++ Crc.tail (index r) ++ foot n) := by rw [str_app, str_app]
    have hcl : (str (index r) ++ str (Crc.tail (index r)) ++ str (foot n)).toList = index r ++ Crc.tail (index r) ++ foot n := by rw [hcat, ByteArray.toList_eq, str_list]
    have hn0 : (0 : Int) ≤ (n : Int) := by omega
    have hn1 : (n : Int) ≤ (s.size : Int) := by omega
    have hEn : (s.data.toList.drop n = index r ++ Crc.tail (index r) ++ foot n ∧ openC s.data.toList = (r, 0)) ∨ (s.data.toList.drop n ≠ index r ++ Crc.tail (index r) ++ foot n ∧ openC s.data.toList = ([], 9)) := by
      by_cases hi : s.data.toList.drop n = index r ++ Crc.tail (index r) ++ foot n
      · exact .inl ⟨hi, open_ok k1 k2 hn c5 hr ho' hi⟩
      · exact .inr ⟨hi, open_index k1 k2 hn c5 hr ho' hi⟩
    rw [← hVl, ← hcl] at hEn
    clear hlen k1 k2 hn c5 hr hV hVl hcat hcl hix ho
    have hbad : ∀ J : ByteArray, str (index r) = J → True := fun _ _ => trivial
    generalize str (index r) = J at *
    generalize str (Crc.tail (index r)) = T at *
    generalize str (foot n) = F at *
    have hq1 := fun W => run_string_add_sum (P := Tryz.prog) W J T (by omega)
    have hq2 := fun W => run_string_add_sum (P := Tryz.prog) W (J ++ T) F (by rw [ByteArray.size_append]; omega)
    clear hJs hTs hFs hbad
    rcases hEn with ⟨hi, hE⟩ | ⟨hi, hE⟩
    · have HE := Lib.hid hE
      have hbq : (V.toList == (J ++ T ++ F).toList) = true := by rw [beq_iff_eq]; exact hi
      clear hi hE
      go_enter Tryz.func12, Tryz.ntmps12
      go_wp2_with (first
        | (go_at_call 30; (with_reducible refine (HNum.out _).mono ?_); rintro e w1 ⟨rfl, hb1⟩)
        | (go_at_call 31; (with_reducible refine (HFr.out _).mono ?_); rintro e w2 ⟨hb2, (⟨h, -⟩ | ⟨A, cap, ys, h, rfl, hSec, hnil⟩)⟩; exact absurd h (by simp); obtain rfl := Option.some.inj h)
        | (go_at_call 17; refine (ordered_any A cap ys _ hSec (by have := (hlim ys rfl).1; unfold maxLen; omega)).mono ?_; rintro e w3 ⟨rfl, hb3⟩)
        | (go_at_call 10; refine (HI.out A cap ys _ rfl (Sects.at hSec hb3)).mono ?_; rintro e w4 ⟨rfl, hb4⟩))
      have hB4 := below2 (below2 (below2 hb1 hb2) hb3) hb4
      have hS4 := Sects.at (Sects.at hSec hb3) hb4
      have hB5 := hB4.drew
      have hS5 : Sects w4.drew w4.drew.heap.size A ys := hS4
      go_region_held3 (fun _ => True) (trivial)
        (first
          | (go_at_call 20; (with_reducible refine (HT.out _).mono ?_); rintro e w5 ⟨rfl, hb5⟩; have hB5 := hB5.trans (hb5.mono hB5.size); have hS5 := Sects.at hS5 hb5)
          | (go_at_call 21; (with_reducible refine (HF.out _).mono ?_); rintro e w5 ⟨rfl, hb5⟩; have hB5 := hB5.trans (hb5.mono hB5.size); have hS5 := Sects.at hS5 hb5))
      go_wp2_with fail
      go_ret2
      exact ⟨hB5, A, cap, ys, by rw [HE.out], by rw [HE.out]; rfl, hS5, hnil⟩
    · have HE := Lib.hid hE
      have hbq : (V.toList == (J ++ T ++ F).toList) = false := by rw [beq_eq_false_iff_ne]; exact hi
      clear hi hE
      go_enter Tryz.func12, Tryz.ntmps12
      go_wp2_with (first
        | (go_at_call 30; (with_reducible refine (HNum.out _).mono ?_); rintro e w1 ⟨rfl, hb1⟩)
        | (go_at_call 31; (with_reducible refine (HFr.out _).mono ?_); rintro e w2 ⟨hb2, (⟨h, -⟩ | ⟨A, cap, ys, h, rfl, hSec, hnil⟩)⟩; exact absurd h (by simp); obtain rfl := Option.some.inj h)
        | (go_at_call 17; refine (ordered_any A cap ys _ hSec (by have := (hlim ys rfl).1; unfold maxLen; omega)).mono ?_; rintro e w3 ⟨rfl, hb3⟩)
        | (go_at_call 10; refine (HI.out A cap ys _ rfl (Sects.at hSec hb3)).mono ?_; rintro e w4 ⟨rfl, hb4⟩))
      have hB4 := below2 (below2 (below2 hb1 hb2) hb3) hb4
      have hS4 := Sects.at (Sects.at hSec hb3) hb4
      have hB5 := hB4.drew
      have hS5 : Sects w4.drew w4.drew.heap.size A ys := hS4
      go_region_held3 (fun _ => True) (trivial)
        (first
          | (go_at_call 20; (with_reducible refine (HT.out _).mono ?_); rintro e w5 ⟨rfl, hb5⟩; have hB5 := hB5.trans (hb5.mono hB5.size); have hS5 := Sects.at hS5 hb5)
          | (go_at_call 21; (with_reducible refine (HF.out _).mono ?_); rintro e w5 ⟨rfl, hb5⟩; have hB5 := hB5.trans (hb5.mono hB5.size); have hS5 := Sects.at hS5 hb5))
      go_wp2_with fail
      go_ret2
      exact OpenEnds.none HE.out hB5

end Go.Proofs.YtfjdbbhaigjbmaaGreat.Cont
