/-
  The reference of containers, walked: sections are sealed.
-/
import Derived.Test.YtfjdbbhaigjbmaaGreatContIdx
import Derived.Test.YtfjdbbhaigjbmaaGreatFrameG
namespace Go.Proofs.YtfjdbbhaigjbmaaGreat.Cont
open Go.RowKit Leb Mem _root_.Go.Proofs.YtfjdbbhaigjbmaaGreat.Frame

/-- What sealing comes to. -/
def SealEnds (l : List Sec) (w : World) (e : Ending) (w' : World) : Prop :=
  e = .returned (.tuple #[.string (str (sealC l).1), .int .i64 (sealC l).2]) ∧ Below w.heap.size w w'
theorem SealEnds.mk {l : List Sec} {s : ByteArray} {w w' : World} {r : List UInt8} {c : Int} (h : sealC l = (r, c)) (hs : s = str r) (hb : Below w.heap.size w w') : SealEnds l w (.returned (.tuple #[.string s, .int .i64 c])) w' :=
  ⟨by rw [h, hs], hb⟩
theorem SealEnds.to {l : List Sec} {w w' : World} {e : Ending} {r : List UInt8} {c : Int} (h : SealEnds l w e w') (hl : sealC l = (r, c)) : e = .returned (.tuple #[.string (str r), .int .i64 c]) ∧ Below w.heap.size w w' := by
  obtain ⟨h1, h2⟩ := h
  rw [hl] at h1
  exact ⟨h1, h2⟩

theorem fPut_ok {x : Sec} (h0 : 1 ≤ x.1) (h1 : x.1 ≤ 255) (h2 : x.2.length ≤ 1048576) : fPut x.1 x.2 = (fput x.1 x.2, 0) := by
  unfold fPut; rw [if_neg (by omega), if_neg (by omega)]
theorem secs_mem {xs : List Sect} {i : Nat} {x : Sect} (h : xs[i]? = some x) : (x.t, x.d.data.toList) ∈ secs xs := by
  unfold secs; exact List.mem_map.2 ⟨x, List.mem_of_getElem? h, rfl⟩
theorem body_take_le (l : List Sec) (k : Nat) : (body (l.take k)).length ≤ (body l).length := by
  conv => rhs; rw [← List.take_append_drop k l]
  rw [body_append, List.length_append]
  omega
theorem secs_take_eq (xs : List Sect) (k : Nat) : secs (xs.take k) = (secs xs).take k := by unfold secs; rw [List.map_take]

set_option maxRecDepth 100000 in
set_option maxHeartbeats 4000000 in
theorem ref_Seal_any (A : Option Addr) (cap : Nat) (xs : List Sect) (w : World) (hx : Sects w w.heap.size A xs) (hl : Lim xs) :
    Calls Tryz.prog 8 #[.slice A xs.length cap] w (SealEnds (secs xs) w) := by
  obtain ⟨hl1, hl2⟩ := id hl
  have HO := Lib.hid (ordered_any A cap xs w hx (by unfold maxLen; omega))
  have HX := Lib.hid hx
  have HL := Lib.hid hl
  clear hx
  by_cases ho : ord (secs xs) = false
  · have HE := Lib.hid (show sealC (secs xs) = ([], 20) by unfold sealC; rw [if_pos ho])
    rw [ho] at HO
    go_enter Tryz.func8, Tryz.ntmps8
    go_wp2_with (go_at_call 17; refine HO.out.mono ?_; rintro e w1 ⟨rfl, hb1⟩)
    go_ret2
    exact SealEnds.mk HE.out rfl hb1
  have ho' : ord (secs xs) = true := by simpa using ho
  have hcount := ord_pos ho'
  rw [secs_len] at hcount
  rw [ho'] at HO
  go_enter Tryz.func8, Tryz.ntmps8
  go_wp2_with (go_at_call 17; refine HO.out.mono ?_; rintro e w1 ⟨rfl, hb1⟩)
  clear HO
  go_loopw [4, 5] (fun a i wr => ∃ k : Nat, k ≤ xs.length ∧ i = .int .i64 k ∧ a = .int .i64 ((7 + (body (secs (xs.take k))).length : Nat) : Int) ∧ Below w.heap.size w wr) (fun _ i _ => xs.length - (intOf i).toNat)
  case atStart => exact ⟨0, by omega, rfl, rfl, hb1⟩
  case round =>
    obtain ⟨k, hk, rfl, rfl, hB⟩ := hrel
    by_cases hlt : k < xs.length
    · obtain ⟨x, hxk⟩ : ∃ x, xs[k]? = some x := ⟨_, List.getElem?_eq_getElem hlt⟩
      obtain ⟨ad, rfl, hbk, hs1, h0, h1⟩ := (Sects.below HX.out hB) k x hxk
      have hbn := body_snoc (secs (xs.take k)) (x.t, x.d.data.toList)
      rw [← secs_take xs k x hxk] at hbn
      have hbl := body_lim HL.out k
      have hxs := total_mem hxk
      have hzl := size_le (x := (x.t, x.d.data.toList)) (by rw [len_of]; omega)
      simp only at hzl
      rw [len_of] at hzl
      have HZ := Lib.hid (fun W => ref_size_any x.t x.d (by omega) W)
      generalize size (x.t, x.d.data.toList) = z at *
      generalize (body (secs (xs.take k))).length = q at *
      have hw4 : IntKind.i64.wrap (((7 + q : Nat) : Int) + (z : Int)) = ((7 + q : Nat) : Int) + (z : Int) := IntWalk.i64_in _ (by omega)
      have HQ := Lib.hid (show ((7 + q : Nat) : Int) + (z : Int) = ((7 + (body (secs (xs.take (k + 1)))).length : Nat) : Int) by rw [hbn]; omega)
      generalize ((7 + q : Nat) : Int) = Q at *
      clear hbn hbl hxs hzl hxk
      go_wp2_with ((go_at_call 18; (with_reducible refine (HZ.out _).mono ?_); rintro e w3 ⟨rfl, hb3⟩))
      go_roundw
      case rel => exact ⟨k + 1, by omega, by go_num, by rw [← HQ.out], hB.trans (hb3.mono hB.size)⟩
      case measure => simp [intOf]; omega
    · have hk9 : k = xs.length := by omega
      subst hk9
      rw [List.take_length]
      have hbl := body_lim HL.out xs.length
      rw [List.take_length] at hbl
      have hix : (index (secs xs)).length ≤ 490 := by
        have h1 := idx_len (secs xs) 7 (by rw [secs_len]; omega) (by omega)
        have h2 := lput_len10 (n := (secs xs).length) (by rw [secs_len]; omega)
        unfold index
        rw [List.length_append]
        rw [secs_len] at h1 h2 ⊢
        omega
      have HI := Lib.hid (fun W hW => ref_Index_any A cap xs W hW HL.out)
      obtain ⟨I, hI⟩ : ∃ I, index (secs xs) = I := ⟨_, rfl⟩
      obtain ⟨q, hq⟩ : ∃ q, (body (secs xs)).length = q := ⟨_, rfl⟩
      rw [hI] at HI hix
      rw [hq] at hbl ⊢
      have hIs : (str I).size = I.length := str_size I
      have g1 : IntKind.i64.wrap (((7 + q : Nat) : Int) + (I.length : Int)) = ((7 + q : Nat) : Int) + (I.length : Int) := IntWalk.i64_in _ (by omega)
      have g2 : IntKind.i64.wrap (((7 + q : Nat) : Int) + (I.length : Int) + 12) = ((7 + q : Nat) : Int) + (I.length : Int) + 12 := IntWalk.i64_in _ (by omega)
      by_cases hbig : 1048576 < 7 + q + I.length + 12
      · have HE := Lib.hid (show sealC (secs xs) = ([], 4) by unfold sealC; rw [if_neg ho, hq, hI, if_pos hbig])
        have hbig' : (1048576 : Int) < ((7 + q : Nat) : Int) + (I.length : Int) + 12 := by omega
        generalize ((7 + q : Nat) : Int) = Q at *
        clear hbl hix hq hI ho
        go_wp2_with ((go_at_call 10; refine (HI.out _ ((Sects.at HX.out hB))).mono ?_; rintro e w3 ⟨rfl, hb3⟩))
        go_ret2
        exact SealEnds.mk HE.out rfl (hB.trans (hb3.mono hB.size))
      · have HE := Lib.hid (show sealC (secs xs) = (magic ++ body (secs xs) ++ I ++ Crc.tail I ++ foot (7 + q), 0) by unfold sealC; rw [if_neg ho, hq, hI, if_neg hbig])
        have hbig' : ((7 + q : Nat) : Int) + (I.length : Int) + 12 ≤ 1048576 := by omega
        have hq20 : q ≤ 1048576 := by omega
        have HQ := Lib.hid hq
        have HOT := Lib.hid (ord_types ho')
        have HF := Lib.hid (fun W => ref_foot_any (7 + q) (by omega) W)
        clear hbl hq hI ho ho' hbig hl2
        obtain ⟨Q, hQ⟩ : ∃ Q : Int, Q = ((7 + q : Nat) : Int) := ⟨_, rfl⟩
        rw [← hQ] at g1 g2 hbig' HF ⊢
        clear hQ
        go_wp2_with ((go_at_call 10; refine (HI.out _ ((Sects.at HX.out hB))).mono ?_; rintro e w3 ⟨rfl, hb3⟩))
        have hB3 := hB.trans (hb3.mono hB.size)
        clear hB hb3 hb1
        go_loopw [7, 8] (fun s i wr => ∃ k : Nat, k ≤ xs.length ∧ i = .int .i64 k ∧ s = .string (str (magic ++ body (secs (xs.take k)))) ∧ Below w.heap.size w wr) (fun _ i _ => xs.length - (intOf i).toNat)
        case atStart => exact ⟨0, by omega, rfl, rfl, hB3⟩
        case round =>
          obtain ⟨k, hk, rfl, rfl, hB⟩ := hrel
          by_cases hlt : k < xs.length
          · obtain ⟨x, hxk⟩ : ∃ x, xs[k]? = some x := ⟨_, List.getElem?_eq_getElem hlt⟩
            obtain ⟨ad, rfl, hbk, hs1, h0, h1⟩ := (Sects.below HX.out hB) k x hxk
            have hm := HOT.out _ (secs_mem hxk)
            have hbm := body_mem (secs_mem hxk)
            rw [HQ.out] at hbm
            simp only at hm hbm
            rw [len_of] at hbm
            have hst : str (magic ++ body (secs (xs.take k))) ++ str (fput x.t x.d.data.toList) = str (magic ++ body (secs (xs.take (k + 1)))) := by
              rw [str_app, secs_take xs k x hxk, body_append]; simp [body, List.append_assoc]
            have hz0 : (str (magic ++ body (secs (xs.take k)))).size ≤ 1048583 := by
              rw [str_size, List.length_append, secs_take_eq, magic_len]; have := body_take_le (secs xs) k; rw [HQ.out] at this; omega
            have hz1 : (str (fput x.t x.d.data.toList)).size ≤ 1048600 := by
              rw [str_size]; have := size_le (x := (x.t, x.d.data.toList)) (by rw [len_of]; omega); unfold size at this; simp only at this; rw [len_of] at this; omega
            have HP := Lib.hid (fun W => (ref_Put_frame x.t x.d (by omega) W).mono (fun e w' h => h.to (fPut_ok (x := (x.t, x.d.data.toList)) hm.1 hm.2 (by rw [len_of]; omega))))
            simp only at HP
            have HS := Lib.hid hst
            clear hst hm hbm hxk
            generalize str (magic ++ body (secs (xs.take k))) = S at *
            generalize str (fput x.t x.d.data.toList) = P at *
            go_wp2_with ((go_at_call 19; (with_reducible refine (HP.out _).mono ?_); rintro e w4 ⟨rfl, hb4⟩))
            go_roundw
            case rel => exact ⟨k + 1, by omega, by go_num, by rw [HS.out], hB.trans (hb4.mono hB.size)⟩
            case measure => simp [intOf]; omega
          · have hk9 : k = xs.length := by omega
            subst hk9
            rw [List.take_length]
            have hz0 : (str (magic ++ body (secs xs))).size ≤ 1048583 := by rw [str_size, List.length_append, HQ.out, magic_len]; omega
            have HT := Lib.hid (fun W => Crc.ref_Tail_any (str I) (by omega) W)
            rw [str_list] at HT
            change Hid (∀ W, Calls _ _ _ W fun e w' => e = .returned (.string (str (Crc.tail I))) ∧ Below W.heap.size W w') at HT
            have hz3 : (str (Crc.tail I)).size ≤ 4 := by rw [str_size, Crc.tail_len]; omega
            have hz4 : (str (foot (7 + q))).size ≤ 8 := by rw [str_size, foot_len]; omega
            have HS := Lib.hid (show str (magic ++ body (secs xs)) ++ str I ++ str (Crc.tail I) ++ str (foot (7 + q)) = str (magic ++ body (secs xs) ++ I ++ Crc.tail I ++ foot (7 + q)) by rw [str_app, str_app, str_app])
            generalize str (magic ++ body (secs xs)) = S at *
            generalize str (Crc.tail I) = T at *
            generalize str (foot (7 + q)) = F at *
            generalize str I = J at *
            have hq1 := fun W => run_string_add_sum (P := Tryz.prog) W S J (by omega)
            have hq2 := fun W => run_string_add_sum (P := Tryz.prog) W (S ++ J) T (by rw [ByteArray.size_append]; omega)
            have hq3 := fun W => run_string_add_sum (P := Tryz.prog) W (S ++ J ++ T) F (by rw [ByteArray.size_append, ByteArray.size_append]; omega)
            clear hz0 hz3 hz4 hix hIs hq20 hbig' g1 g2
            go_wp2_with (first
              | (go_at_call 20; (with_reducible refine (HT.out _).mono ?_); rintro e w5 ⟨rfl, hb5⟩)
              | (go_at_call 21; (with_reducible refine (HF.out _).mono ?_); rintro e w6 ⟨rfl, hb6⟩))
            go_ret2
            exact SealEnds.mk HE.out HS.out (hB.trans ((below2 hb5 hb6).mono hB.size))

end Go.Proofs.YtfjdbbhaigjbmaaGreat.Cont
