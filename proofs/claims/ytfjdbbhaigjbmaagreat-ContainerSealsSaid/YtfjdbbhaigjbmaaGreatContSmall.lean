/-
  Package container, walked: its small functions: giving up, are sections in order, a frame's size, the marks at both ends, the number in the foot.
-/
import Derived.Test.YtfjdbbhaigjbmaaGreatContIdx
import Derived.Test.YtfjdbbhaigjbmaaGreatContOpen
import Derived.Test.YtfjdbbhaigjbmaaGreatFrameG
import Derived.Test.YtfjdbbhaigjbmaaGreatWireG
import Derived.Recover
namespace Go.Proofs.YtfjdbbhaigjbmaaGreat.Cont
open Go.RowKit Leb Mem _root_.Go.Proofs.YtfjdbbhaigjbmaaGreat.Frame

/-- What is given up with. -/
def gone (c : Int) : List PanicEntry := [{ v := .iface 53 (.int .i64 c), recovered := false }]

theorem must_true (c : Int) (w : World) : Calls Tryz.prog 32 #[.bool true, .int .i64 c] w fun e w' => e = .returned (.tuple #[]) ∧ w = w' := by
  go_enter Tryz.func32, Tryz.ntmps32
  go_wp2
  go_end0
  exact ⟨rfl, rfl⟩

theorem must_false (c : Int) (w : World) : Calls Tryz.prog 32 #[.bool false, .int .i64 c] w fun e w' => e = .panicked (gone c) ∧ w = w' := by
  go_enter Tryz.func32, Tryz.ntmps32
  go_wp2
  exact ⟨rfl, rfl, rfl⟩

/-- The last type so far. -/
def lastT (l : List Sec) : Int := ((l.getLast?).map (·.1)).getD 0
theorem steps_more {l : List Sec} (x : Sec) (h : steps l = true) : steps (l ++ [x]) = (decide (lastT l < x.1) && decide (x.1 ≤ 255)) := by
  rw [steps_snoc, h, Bool.true_and]
  unfold lastT okType
  rcases hl : l.getLast? with _ | y
  · simp only [Option.map_none, Option.getD_none, Bool.and_true]
    congr 1
  · have hy := steps_types h y (List.mem_of_getLast? hl)
    simp only [Option.map_some, Option.getD_some]
    rw [Bool.eq_iff_iff]
    simp
    omega
theorem lastT_snoc (l : List Sec) (x : Sec) : lastT (l ++ [x]) = x.1 := by unfold lastT; rw [List.getLast?_append]; rfl

set_option maxRecDepth 100000 in
theorem p_ordered_any (A : Option Addr) (cap : Nat) (xs : List Sect) (w : World) (hx : Sects w w.heap.size A xs) (hlen : xs.length ≤ maxLen) :
    Calls Tryz.prog 33 #[.slice A xs.length cap] w fun e w' => e = .returned (.bool (ord (secs xs))) ∧ Below w.heap.size w w' := by
  unfold maxLen at hlen
  have HX := Lib.hid hx
  clear hx
  go_enter Tryz.func33, Tryz.ntmps33
  go_wp2
  go_loopw [3, 8] (fun a i wr => ∃ k : Nat, k ≤ xs.length ∧ steps (secs (xs.take k)) = true ∧ i = .int .i64 k ∧ a = .int .i64 (lastT (secs (xs.take k))) ∧ Below w.heap.size w wr) (fun _ i _ => xs.length - (intOf i).toNat)
  case atStart => exact ⟨0, by omega, rfl, rfl, rfl, Below.refl _ _⟩
  case round =>
    obtain ⟨k, hk, hs, rfl, rfl, hB⟩ := hrel
    by_cases hlt : k < xs.length
    · obtain ⟨x, hxk⟩ : ∃ x, xs[k]? = some x := ⟨_, List.getElem?_eq_getElem hlt⟩
      obtain ⟨ad, rfl, hb, hs1, h0, h1⟩ := (Sects.below HX.out hB) k x hxk
      have hsn := steps_more (x.t, x.d.data.toList) hs
      have hln := lastT_snoc (secs (xs.take k)) (x.t, x.d.data.toList)
      rw [← secs_take xs k x hxk] at hsn hln
      simp only at hsn hln
      generalize lastT (secs (xs.take k)) = q at *
      by_cases h1' : x.t ≤ q
      · have HS := Lib.hid (steps_bad (show steps (secs (xs.take (k + 1))) = false by rw [hsn]; simp; omega))
        have n1 : decide (x.t ≤ q) = true := decide_eq_true h1'
        clear hsn hxk hln
        go_wp2
        go_ret
        exact ⟨by rw [HS.out]; rfl, hB.alloc hB.size _⟩
      · have n1 : decide (x.t ≤ q) = false := decide_eq_false h1'
        by_cases h2' : 255 < x.t
        · have HS := Lib.hid (steps_bad (show steps (secs (xs.take (k + 1))) = false by rw [hsn]; simp; omega))
          have n2 : decide (255 < x.t) = true := decide_eq_true h2'
          clear hsn hxk hln
          go_wp2
          go_ret
          exact ⟨by rw [HS.out]; rfl, hB.alloc hB.size _⟩
        · have n2 : decide (255 < x.t) = false := decide_eq_false h2'
          have HS := Lib.hid (show steps (secs (xs.take (k + 1))) = true by rw [hsn]; simp; omega)
          have HL := Lib.hid hln
          clear hsn hxk hln
          go_wp2
          go_roundw
          case rel => exact ⟨k + 1, by omega, HS.out, by go_num, by rw [HL.out], hB.alloc hB.size _⟩
          case measure => simp [intOf]; omega
    · have hk9 : k = xs.length := by omega
      subst hk9
      have hF : ord (secs xs) = (decide (1 ≤ xs.length) && decide (xs.length ≤ 16)) := by
        rw [List.take_length] at hs
        unfold ord
        rw [hs, show (secs xs).length = xs.length by simp [secs]]
        simp
      by_cases h1 : 1 ≤ xs.length
      · have HF := Lib.hid (show ord (secs xs) = decide ((xs.length : Int) ≤ 16) by
          rw [hF, decide_eq_true h1, Bool.true_and]; apply decide_eq_decide.2; omega)
        have h1' : (1 : Int) ≤ (xs.length : Int) := by omega
        clear hF
        go_wp2
        go_ret
        exact ⟨by rw [HF.out]; rfl, hB⟩
      · have HF := Lib.hid (show ord (secs xs) = false by rw [hF, decide_eq_false h1, Bool.false_and])
        have h1' : (xs.length : Int) < 1 := by omega
        clear hF
        go_wp2
        go_ret
        exact ⟨by rw [HF.out]; rfl, hB⟩

set_option maxRecDepth 100000 in
set_option maxHeartbeats 1000000 in
theorem p_size_any (t : Int) (d : ByteArray) (hd : d.size ≤ 1073741824) (w : World) :
    Calls Tryz.prog 25 #[.agg #[.int .i64 t, .string d]] w fun e w' => e = .returned (.int .i64 (size (t, d.data.toList))) ∧ Below w.heap.size w w' := by
  have HH := Lib.hid (fun W => Head_any t d hd W)
  have hE := size_eq (t, d.data.toList)
  have hhl := head_len t d.data.toList
  have hpl := lput_len10 (n := d.data.toList.length) (by rw [len_of]; omega)
  obtain ⟨H, hH⟩ : ∃ H, head t d.data.toList = H := ⟨_, rfl⟩
  rw [hH] at HH hhl
  simp only at hE
  rw [hH, len_of] at hE
  have hHs : (str H).size = H.length := str_size H
  have hHl : H.length ≤ 11 := by omega
  obtain ⟨K, hK⟩ : ∃ K, str H = K := ⟨_, rfl⟩
  rw [hK] at HH hHs
  have hKs : K.size ≤ 11 := by omega
  have HE := Lib.hid (show (size (t, d.data.toList) : Int) = (K.size : Int) + d.size + 4 by rw [hE]; omega)
  have w1 : IntKind.i64.wrap ((K.size : Int) + (d.size : Int)) = (K.size : Int) + (d.size : Int) := IntWalk.i64_in _ (by omega)
  have w2 : IntKind.i64.wrap ((K.size : Int) + (d.size : Int) + 4) = (K.size : Int) + (d.size : Int) + 4 := IntWalk.i64_in _ (by omega)
  clear hE hhl hpl hH hHs hHl hK hKs
  have bP := Blk.new w 34 #[.int .i64 t, .string d]
  have hB0 : Below w.heap.size w (w.alloc (.cells #[.int .i64 t, .string d] 34)) := (Below.refl _ _).alloc (Nat.le_refl _) _
  go_enter Tryz.func25, Tryz.ntmps25
  go_wp2_with fail
  generalize w.alloc (.cells #[.int .i64 t, .string d] 34) = W at *
  obtain ⟨c0, c1⟩ := bP.two
  have hBd := hB0.drew
  have hl : w.heap.size < W.drew.heap.size := bP.lt
  have c0 : W.drew.cell? ⟨w.heap.size, 0, none⟩ = some (.int .i64 t) := c0
  have c1 : W.drew.cell? ⟨w.heap.size, 1, none⟩ = some (.string d) := c1
  go_region_held3 (fun w' => w'.cell? ⟨w.heap.size, 0, none⟩ = some (.int .i64 t) ∧ w'.cell? ⟨w.heap.size, 1, none⟩ = some (.string d)) (first | exact ⟨c0, c1⟩ | go_keep)
    (first | (go_at_call 42; (with_reducible refine (HH.out _).mono ?_); rintro e w1 ⟨rfl, hb1⟩; have c0 := (hb1.cell (p := ⟨w.heap.size, 0, none⟩) hl).trans c0; have c1 := (hb1.cell (p := ⟨w.heap.size, 1, none⟩) hl).trans c1; have hBd := hBd.trans (hb1.mono hBd.size)))
  go_wp2
  go_ret
  exact ⟨by rw [HE.out]; rfl, hBd⟩

/-- Do bytes begin and end as a container does? -/
def marks (l : List UInt8) : Bool := decide (15 ≤ l.length) && (decide (l.take 7 = magic) && decide (l.drop (l.length - 4) = theEnd))

set_option maxRecDepth 100000 in
theorem pre_any (s : ByteArray) (h : (7 : Int) ≤ (s.size : Int)) (w : World) :
    Calls Tryz.prog 55 #[.string s, .string ⟨#[77, 85, 84, 65, 82, 67, 1]⟩] w fun e w' => e = .returned (.bool ((s.extract 0 7).toList == [77, 85, 84, 65, 82, 67, 1])) ∧ w = w' := by
  go_enter Tryz.func55, Tryz.ntmps55
  go_wp2
  go_ret
  exact ⟨rfl, rfl⟩
set_option maxRecDepth 100000 in
theorem suf_any (s : ByteArray) (h : (4 : Int) ≤ (s.size : Int)) (hs : s.size ≤ 1073741824) (w : World) :
    Calls Tryz.prog 56 #[.string s, .string ⟨#[69, 78, 68, 46]⟩] w fun e w' => e = .returned (.bool ((s.extract (s.size - 4) s.size).toList == [69, 78, 68, 46])) ∧ w = w' := by
  have m4 : IntKind.i64.wrap ((s.size : Int) - 4) = (s.size : Int) - 4 := IntWalk.i64_in _ (by omega)
  have j1 : (0 : Int) ≤ (s.size : Int) - 4 := by omega
  have j2 : (s.size : Int) - 4 ≤ (s.size : Int) := by omega
  have j5 : ((s.size : Int) - 4).toNat = s.size - 4 := by omega
  go_enter Tryz.func56, Tryz.ntmps56
  go_wp2
  go_ret
  exact ⟨rfl, rfl⟩

set_option maxRecDepth 100000 in
set_option maxHeartbeats 1000000 in
theorem p_marked_any (s : ByteArray) (hs : s.size ≤ 1073741824) (w : World) :
    Calls Tryz.prog 43 #[.string s] w fun e w' => e = .returned (.bool (marks s.data.toList)) ∧ w = w' := by
  have hlen := len_of s
  by_cases c2 : s.size < 15
  · have HE := Lib.hid (show marks s.data.toList = false by unfold marks; rw [decide_eq_false (by omega), Bool.false_and])
    go_enter Tryz.func43, Tryz.ntmps43
    go_wp2_with fail
    go_ret
    exact ⟨by rw [HE.out]; rfl, rfl⟩
  have h7 := extract_str s 0 7
  rw [List.drop_zero, Nat.sub_zero] at h7
  have h15i : (15 : Int) ≤ (s.size : Int) := by omega
  have h7i : (7 : Int) ≤ (s.size : Int) := by omega
  have h4i : (4 : Int) ≤ (s.size : Int) := by omega
  have m4 : IntKind.i64.wrap ((s.size : Int) - 4) = (s.size : Int) - 4 := IntWalk.i64_in _ (by omega)
  have h4 := extract_str s (s.size - 4) s.size
  rw [List.take_of_length_le (by rw [List.length_drop, len_of]; omega)] at h4
  obtain ⟨U7, hU7⟩ : ∃ U, s.extract 0 7 = U := ⟨_, rfl⟩
  obtain ⟨U4, hU4⟩ : ∃ U, s.extract (s.size - 4) s.size = U := ⟨_, rfl⟩
  rw [hU7] at h7
  rw [hU4] at h4
  have q7 : U7.toList = s.data.toList.take 7 := by rw [h7, ByteArray.toList_eq, str_list]
  have q4 : U4.toList = s.data.toList.drop (s.data.toList.length - 4) := by rw [h4, ByteArray.toList_eq, str_list, hlen]
  have j1 : (0 : Int) ≤ (s.size : Int) - 4 := by omega
  have j2 : (s.size : Int) - 4 ≤ (s.size : Int) := by omega
  have j5 : ((s.size : Int) - 4).toNat = s.size - 4 := by omega
  have hM : marks s.data.toList = ((U7.toList == [77, 85, 84, 65, 82, 67, 1]) && (U4.toList == [69, 78, 68, 46])) := by
    unfold marks
    rw [decide_eq_true (by omega), Bool.true_and, q7, q4, Bool.eq_iff_iff]
    simp only [Bool.and_eq_true, decide_eq_true_iff, beq_iff_eq]
    exact Iff.rfl
  have HM := Lib.hid hM
  clear h7 h4 q7 q4 hlen hM
  have HP := Lib.hid (fun W => pre_any s h7i W)
  have HS := Lib.hid (fun W => suf_any s h4i hs W)
  rw [hU7] at HP
  rw [hU4] at HS
  generalize (U4.toList == [69, 78, 68, 46]) = b4 at *
  clear hU7 hU4 m4 j1 j2 j5 hs
  rcases hb7 : (U7.toList == [77, 85, 84, 65, 82, 67, 1]) with _ | _
  · rw [hb7] at HP HM
    go_enter Tryz.func43, Tryz.ntmps43
    go_wp2_with (first | (go_at_call 55; refine (HP.out _).mono ?_; rintro e w1 ⟨rfl, rfl⟩))
    go_ret
    exact ⟨by rw [HM.out]; rfl, rfl⟩
  · rw [hb7] at HP HM
    go_enter Tryz.func43, Tryz.ntmps43
    go_wp2_with (first | (go_at_call 55; refine (HP.out _).mono ?_; rintro e w1 ⟨rfl, rfl⟩) | (go_at_call 56; refine (HS.out _).mono ?_; rintro e w1 ⟨rfl, rfl⟩))
    go_ret
    exact ⟨by rw [HM.out, Bool.true_and]; rfl, rfl⟩

/-! ### The number in the foot -/
theorem i64_or_nat (a b : Nat) (ha : a < 9223372036854775808) (hb : b < 9223372036854775808) : bits .or .i64 (a : Int) (b : Int) = ((a ||| b : Nat) : Int) := by
  have hx : a ||| b < 2 ^ 63 := Nat.or_lt_two_pow (by omega) (by omega)
  show IntKind.i64.wrap ((BitVec.ofInt 64 (a : Int) ||| BitVec.ofInt 64 (b : Int)).toNat : Int) = _
  rw [BitVec.toNat_or, ofInt_u64 a (by omega), ofInt_u64 b (by omega)]
  exact IntWalk.i64_in _ (by omega)
theorem num_append : ∀ (l : List UInt8) (b : UInt8), num (l ++ [b]) = num l + b.toNat * 256 ^ l.length
  | [], b => by simp [num]
  | c :: l, b => by rw [List.cons_append, num, num_append l b, num, List.length_cons, Nat.pow_succ, Nat.add_mul, Nat.mul_assoc]; omega
theorem num_lt : ∀ l : List UInt8, num l < 256 ^ l.length
  | [] => by simp [num]
  | b :: l => by have := num_lt l; have := b.toNat_lt; rw [num, List.length_cons, Nat.pow_succ]; omega
theorem num_or (x k : Nat) (b : UInt8) (hk : k ≤ 3) (hx : x < 256 ^ k) :
    bits .or .i64 (x : Int) (IntKind.i64.wrap ((b.toNat : Int) * 2 ^ (8 * k))) = ((x + b.toNat * 256 ^ k : Nat) : Int) := by
  have hb := b.toNat_lt
  have e : (256 : Nat) ^ k = 2 ^ (8 * k) := by rw [Nat.pow_mul]
  have hp : (2 : Nat) ^ (8 * k) ≤ 2 ^ 24 := Nat.pow_le_pow_right (by omega) (by omega)
  have hm : b.toNat * 2 ^ (8 * k) ≤ 256 * 2 ^ 24 := Nat.mul_le_mul (by omega) hp
  have e0 : (b.toNat : Int) * 2 ^ (8 * k) = ((b.toNat * 2 ^ (8 * k) : Nat) : Int) := by simp
  rw [e] at hx ⊢
  rw [e0, IntWalk.i64_in _ (by omega), i64_or_nat _ _ (by omega) (by omega), Nat.or_comm, nat_join (8 * k) _ _ (Nat.mul_mod_left _ _) hx, Nat.add_comm]

set_option maxRecDepth 100000 in
theorem p_number_any (s : ByteArray) (hs : 4 ≤ s.size) (hs2 : s.size ≤ 1073741824) (w : World) :
    Calls Tryz.prog 44 #[.string s] w fun e w' => e = .returned (.int .i64 (num (s.data.toList.take 4))) ∧ Below w.heap.size w w' := by
  have hlen := len_of s
  go_enter Tryz.func44, Tryz.ntmps44
  go_wp2_with (first | (go_at_call 57; refine (Wire.Of_any s _).mono ?_; rintro e w1 ⟨rfl, hR1, hb1⟩))
  go_loopw [4, 8] (fun n i wr => ∃ k : Nat, k ≤ 4 ∧ i = .int .i64 k ∧ n = .int .i64 (num (s.data.toList.take k)) ∧ Wire.Rd wr w.heap.size s k 0 ∧ Below w.heap.size w wr) (fun _ i _ => 4 - (intOf i).toNat)
  case atStart => exact ⟨0, by omega, rfl, rfl, hR1, hb1⟩
  case round =>
    obtain ⟨k, hk, rfl, rfl, hR, hB⟩ := hrel
    by_cases hlt : k < 4
    · have hR' := Wire.Byte_ok w.heap.size s k 0 wr hs2 (by omega) hR
      have htk : s.data.toList.take (k + 1) = s.data.toList.take k ++ [s[k]] := by rw [List.take_succ_eq_append_getElem (by omega)]; rfl
      obtain ⟨b, hbd⟩ : ∃ b : UInt8, s[k] = b := ⟨_, rfl⟩
      rw [hbd] at hR' htk
      have HR := Lib.hid hR'
      have hn := num_append (s.data.toList.take k) b
      have hl := num_lt (s.data.toList.take k)
      rw [show (s.data.toList.take k).length = k by rw [List.length_take]; omega] at hn hl
      have hor := num_or (num (s.data.toList.take k)) k b (by omega) hl
      rw [← htk] at hn
      rw [← hn] at hor
      have hb := b.toNat_lt
      have hw : IntKind.i64.wrap (b.toNat : Int) = (b.toNat : Int) := IntWalk.i64_in _ (by omega)
      have hw8 : IntKind.i64.wrap (8 * (k : Int)) = 8 * (k : Int) := IntWalk.i64_in _ (by omega)
      have hi0 : (0 : Int) ≤ 8 * (k : Int) := by omega
      have hi1 : (8 * (k : Int)).toNat = 8 * k := by omega
      have HO := Lib.hid hor
      clear hn hl hor htk hR' hbd
      go_wp2_with (go_at_call 58; refine HR.out.mono ?_; intro e w2 hq; obtain ⟨he, hr2, hk2⟩ := hq.good; subst he)
      go_roundw
      case rel => exact ⟨k + 1, by omega, by go_num, by rw [← HO.out]; first | rw [IntWalk.i64_left] | rw [← IntWalk.i64_left], hr2, hB.trans (hk2.to_below hB.size (by rintro j rfl; exact Nat.le_refl _))⟩
      case measure => simp [intOf]; omega
    · have hk9 : k = 4 := by omega
      subst hk9
      go_wp2
      go_ret
      exact ⟨rfl, hB⟩

end Go.Proofs.YtfjdbbhaigjbmaaGreat.Cont
