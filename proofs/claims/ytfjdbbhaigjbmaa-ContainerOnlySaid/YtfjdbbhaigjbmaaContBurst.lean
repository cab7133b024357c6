/-
  The laws of layer 7, walked: bits turned are found out.
-/
import Derived.Test.YtfjdbbhaigjbmaaContCut
import Derived.Test.YtfjdbbhaigjbmaaFrameG
import Derived.Test.YtfjdbbhaigjbmaaCrcG
namespace Go.Proofs.Ytfjdbbhaigjbmaa.Cont
open Go.RowKit Leb Mem _root_.Go.Proofs.Ytfjdbbhaigjbmaa.Frame
set_option linter.unusedVariables false

theorem seal_parts {L Q : List Sec} {X : Sec} {r : List UInt8} (h : sealC (L ++ X :: Q) = (r, 0)) :
    ∃ U V, r = U ++ (X.2 ++ Crc.tail (head X.1 X.2 ++ X.2)) ++ V ∧ U.length = 7 + (body L).length + (head X.1 X.2).length := by
  obtain ⟨-, hr, -⟩ := seal_is h
  refine ⟨magic ++ body L ++ head X.1 X.2, body Q ++ index (L ++ X :: Q) ++ Crc.tail (index (L ++ X :: Q)) ++ foot (7 + (body (L ++ X :: Q)).length), ?_, ?_⟩
  · rw [hr]
    generalize index (L ++ X :: Q) = I
    generalize foot (7 + (body (L ++ X :: Q)).length) = F
    rw [body_append, body]
    unfold fput
    simp only [List.append_assoc]
  · simp [magic_len]; omega
theorem secs_split (xs : List Sect) (n : Nat) (x : Sect) (h : xs[n]? = some x) : secs xs = secs (xs.take n) ++ (x.t, x.d.data.toList) :: secs (xs.drop (n + 1)) := by
  obtain ⟨hn, rfl⟩ := List.getElem?_eq_some_iff.1 h
  unfold secs
  conv => lhs; rw [← List.take_append_drop n xs, List.drop_eq_getElem_cons hn]
  rw [List.map_append, List.map_cons]
theorem cut3 (U Y V : List UInt8) : (str (U ++ Y ++ V)).extract 0 U.length = str U ∧ (str (U ++ Y ++ V)).extract U.length (U.length + Y.length) = str Y ∧ (str (U ++ Y ++ V)).extract (U.length + Y.length) (str (U ++ Y ++ V)).size = str V := by
  refine ⟨?_, ?_, ?_⟩
  · rw [extract_str, str_list, List.drop_zero, Nat.sub_zero, List.append_assoc, List.take_left]
  · rw [extract_str, str_list, List.append_assoc, List.drop_left, Nat.add_sub_cancel_left, List.take_left]
  · rw [extract_str, str_list, str_size, ← List.length_append, List.drop_left, List.take_of_length_le]
    simp only [List.length_append]; omega

set_option maxRecDepth 100000 in
set_option maxHeartbeats 4000000 in
theorem containerBursts_of (C : Pkg) (A : Option Addr) (cap : Nat) (xs : List Sect) (hlen : xs.length ≤ maxLen) (hcap : xs.length ≤ cap) (n : Int) (hn : (Lit.int .i64 n).wf = true) (a : Int) (ha : (Lit.int .i64 a).wf = true) (b : Int) (hb : (Lit.int .u32 b).wf = true) (w : World)
    (hx : Sects w w.heap.size A xs) :
    Calls Try.prog 5 #[.slice A xs.length cap, .int .i64 n, .int .i64 a, .int .u32 b] w fun e w' => e = .returned (.bool true) ∧ Below w.heap.size w w' := by
  have HW := Lib.hid (works_any C w)
  have HF := Lib.hid (fun W hW => Few_any A cap xs W hW hlen)
  have HX := Lib.hid hx
  have hb0 : 0 ≤ b ∧ b < 4294967296 := by
    simp [Lit.wf, IntKind.min, IntKind.max, IntKind.signed, IntKind.bits] at hb
    omega
  obtain ⟨bits, rfl⟩ := Int.eq_ofNat_of_zero_le hb0.1
  by_cases hguard : fewB xs = true ∧ 0 ≤ n ∧ n < xs.length ∧ 0 ≤ a ∧ a ≤ 48000
  rotate_left
  · by_cases hf : fewB xs = true
    · by_cases g1 : n < 0
      · clear hguard
        go_enter Try.func5, Try.ntmps5
        go_wp2_with (first
          | (go_at_call 8; refine HW.out.mono ?_; rintro e w1 ⟨rfl, hB⟩; have hS := Sects.at HX.out hB)
          | (go_at_call 9; refine (HF.out _ hS).mono ?_; rintro e w2 ⟨rfl, rfl⟩))
        go_ret
        exact ⟨rfl, hB⟩
      · by_cases g2 : (xs.length : Int) ≤ n
        · have g1' : 0 ≤ n := by omega
          clear hguard
          go_enter Try.func5, Try.ntmps5
          go_wp2_with (first
            | (go_at_call 8; refine HW.out.mono ?_; rintro e w1 ⟨rfl, hB⟩; have hS := Sects.at HX.out hB)
            | (go_at_call 9; refine (HF.out _ hS).mono ?_; rintro e w2 ⟨rfl, rfl⟩))
          go_ret
          exact ⟨rfl, hB⟩
        · by_cases g3 : a < 0
          · have g1' : 0 ≤ n := by omega
            have g2' : n < (xs.length : Int) := by omega
            clear hguard
            go_enter Try.func5, Try.ntmps5
            go_wp2_with (first
              | (go_at_call 8; refine HW.out.mono ?_; rintro e w1 ⟨rfl, hB⟩; have hS := Sects.at HX.out hB)
              | (go_at_call 9; refine (HF.out _ hS).mono ?_; rintro e w2 ⟨rfl, rfl⟩))
            go_ret
            exact ⟨rfl, hB⟩
          · have g1' : 0 ≤ n := by omega
            have g2' : n < (xs.length : Int) := by omega
            have g3' : 0 ≤ a := by omega
            have g4 : 48000 < a := by
              rcases Int.lt_or_le 48000 a with h | h
              · exact h
              · exact absurd ⟨hf, g1', g2', g3', h⟩ hguard
            clear hguard
            go_enter Try.func5, Try.ntmps5
            go_wp2_with (first
              | (go_at_call 8; refine HW.out.mono ?_; rintro e w1 ⟨rfl, hB⟩; have hS := Sects.at HX.out hB)
              | (go_at_call 9; refine (HF.out _ hS).mono ?_; rintro e w2 ⟨rfl, rfl⟩))
            go_ret
            exact ⟨rfl, hB⟩
    · have hf' : fewB xs = false := by simpa using hf
      clear hguard
      go_enter Try.func5, Try.ntmps5
      go_wp2_with (first
        | (go_at_call 8; refine HW.out.mono ?_; rintro e w1 ⟨rfl, hB⟩; have hS := Sects.at HX.out hB)
        | (go_at_call 9; refine (HF.out _ hS).mono ?_; rintro e w2 ⟨rfl, rfl⟩))
      go_ret
      exact ⟨rfl, hB⟩
  obtain ⟨hf, g1, g2, g3, g4⟩ := hguard
  obtain ⟨m, rfl⟩ := Int.eq_ofNat_of_zero_le g1
  obtain ⟨at_, rfl⟩ := Int.eq_ofNat_of_zero_le g3
  have hL := lim_of_few hf
  obtain ⟨⟨r, c⟩, hr⟩ : ∃ q, sealC (secs xs) = q := ⟨_, rfl⟩
  have H1 := Lib.hid (fun W hW => (C.seals A cap xs W hW hL).mono (fun _ _ h => SealEnds.to h hr))
  by_cases hc : c = 0
  rotate_left
  · have hc' : (c != 0) = true := by simpa using hc
    clear hr hc
    go_enter Try.func5, Try.ntmps5
    go_wp2_with (first
      | (go_at_call 8; refine HW.out.mono ?_; rintro e w1 ⟨rfl, hB⟩; have hS := Sects.at HX.out hB)
      | (go_at_call 9; refine (HF.out _ hS).mono ?_; rintro e w2 ⟨rfl, rfl⟩)
      | (go_at_call 10; refine (H1.out _ hS).mono ?_; rintro e w2 ⟨rfl, hb⟩; have hB := hB.trans (hb.mono hB.size)))
    go_ret
    exact ⟨rfl, hB⟩
  subst hc
  obtain ⟨x, hxm⟩ : ∃ x, xs[m]? = some x := ⟨_, List.getElem?_eq_getElem (show m < xs.length by omega)⟩
  have hsp := secs_split xs m x hxm
  have hrp := hr
  rw [hsp] at hrp
  obtain ⟨U, V, hUV, hUl⟩ := seal_parts hrp
  have hz := seal_len hr
  have HLim := Lib.hid hL
  have HR := Lib.hid hr
  have HRP := Lib.hid hrp
  clear hr hrp hsp hL
  have hxs := total_mem hxm
  have hxd : x.d.size ≤ 1073741824 := by have := HLim.out.2; omega
  obtain ⟨Y, hY⟩ : ∃ Y, x.d.data.toList ++ Crc.tail (head x.t x.d.data.toList ++ x.d.data.toList) = Y := ⟨_, rfl⟩
  simp only at hUV hUl
  have HUL := Lib.hid hUl
  have HBits := Lib.hid (show bits < 4294967296 by omega)
  rw [hY] at hUV
  have hYl : Y.length = x.d.size + 4 := by rw [← hY, List.length_append, Crc.tail_len, len_of]
  have hcut := cut3 U Y V
  rw [← hUV] at hcut
  have hrl := congrArg List.length hUV
  simp only [List.length_append] at hrl
  obtain ⟨R, hR⟩ : ∃ R, str r = R := ⟨_, rfl⟩
  have hRs : R.size = r.length := by rw [← hR, str_size]
  rw [hR] at H1 hcut
  have HH := Lib.hid (fun W => Frame.Head_any x.t x.d hxd W)
  obtain ⟨hl, hhl⟩ : ∃ k, (head x.t x.d.data.toList).length = k := ⟨_, rfl⟩
  obtain ⟨H, hH⟩ : ∃ H, str (head x.t x.d.data.toList) = H := ⟨_, rfl⟩
  have hHs : H.size = hl := by rw [← hH, str_size, hhl]
  rw [hH] at HH
  rw [hhl] at hUl
  obtain ⟨B0, hB0⟩ : ∃ k, (body (secs (xs.take m))).length = k := ⟨_, rfl⟩
  rw [hB0] at hUl
  have HB0 := Lib.hid hB0
  have hT := Crc.Turn_any (str Y) (by rw [str_size]; omega) at_ bits (by omega) (by omega)
  unfold Crc.TurnEnds at hT
  rw [str_list] at hT
  have HT := Lib.hid hT
  have HYY := Lib.hid hY
  have HUV := Lib.hid hUV
  have HCut := Lib.hid hcut
  have hst0 : (str U).size = U.length := str_size U
  have hst2 : (str V).size = V.length := str_size V
  have hxk2 := Lib.hid hxm
  have HRR := Lib.hid hR
  clear hT hY hUV hcut hR hH hhl hB0 hxm hb hb0 hn ha
  go_enter Try.func5, Try.ntmps5
  go_wp2_with (first
    | (go_at_call 8; refine HW.out.mono ?_; rintro e w1 ⟨rfl, hB⟩; have hS := Sects.at HX.out hB)
    | (go_at_call 9; refine (HF.out _ hS).mono ?_; rintro e w2 ⟨rfl, rfl⟩)
    | (go_at_call 10; refine (H1.out _ hS).mono ?_; rintro e w2 ⟨rfl, hb⟩; have hB := hB.trans (hb.mono hB.size)))
  clear hS hb
  go_loopw [13, 14] (fun a i wr => ∃ k : Nat, k ≤ m ∧ i = .int .i64 k ∧ a = .int .i64 ((7 + (body (secs (xs.take k))).length : Nat) : Int) ∧ Below w.heap.size w wr) (fun _ i _ => m - (intOf i).toNat)
  case atStart => exact ⟨0, by omega, rfl, rfl, hB⟩
  case round =>
    obtain ⟨k, hk, rfl, rfl, hB⟩ := hrel
    by_cases hlt : k < m
    · obtain ⟨y, hyk⟩ : ∃ y, xs[k]? = some y := ⟨_, List.getElem?_eq_getElem (show k < xs.length by omega)⟩
      obtain ⟨ad, rfl, hbk, hs1, h0, h1⟩ := (Sects.below HX.out hB) k y hyk
      have hbn := body_snoc (secs (xs.take k)) (y.t, y.d.data.toList)
      rw [← secs_take xs k y hyk, size_eq] at hbn
      simp only at hbn
      rw [len_of] at hbn
      have hbl := body_lim HLim.out k
      have hys := total_mem hyk
      have hll := HLim.out
      unfold Lim at hll
      have hkb : k < 1000000 := by omega
      have hhl2 := head_len y.t y.d.data.toList
      have hpl := lput_len10 (n := y.d.data.toList.length) (by rw [len_of]; omega)
      have HH2 := Lib.hid (fun W => Frame.Head_any y.t y.d (by omega) W)
      obtain ⟨H2, hH2⟩ : ∃ H, str (head y.t y.d.data.toList) = H := ⟨_, rfl⟩
      have hH2s : H2.size = (head y.t y.d.data.toList).length := by rw [← hH2, str_size]
      rw [hH2] at HH2
      rw [← hH2s] at hbn hhl2
      generalize (body (secs (xs.take k))).length = q at *
      have v1 : IntKind.i64.wrap (((7 + q : Nat) : Int) + (H2.size : Int)) = ((7 + q : Nat) : Int) + (H2.size : Int) := IntWalk.i64_in _ (by omega)
      have v2 : IntKind.i64.wrap (((7 + q : Nat) : Int) + (H2.size : Int) + (y.d.size : Int)) = ((7 + q : Nat) : Int) + (H2.size : Int) + (y.d.size : Int) := IntWalk.i64_in _ (by omega)
      have v3 : IntKind.i64.wrap (((7 + q : Nat) : Int) + (H2.size : Int) + (y.d.size : Int) + 4) = ((7 + q : Nat) : Int) + (H2.size : Int) + (y.d.size : Int) + 4 := IntWalk.i64_in _ (by omega)
      have HQ := Lib.hid (show ((7 + q : Nat) : Int) + (H2.size : Int) + (y.d.size : Int) + 4 = ((7 + (body (secs (xs.take (k + 1)))).length : Nat) : Int) by rw [hbn]; omega)
      generalize ((7 + q : Nat) : Int) = Q at *
      have i1 : (k : Int) < (xs.length : Int) := by omega
      have i2 : (0 : Int) ≤ (k : Int) := by omega
      clear hbn hbl hys hhl2 hpl hH2 hH2s hyk hll
      go_wp2_with fail
      have hblk : (ad.add (k * 2)).block = ad.block := add_blockS _ _
      have hlb : (ad.add (k * 2)).block < wr.drew.heap.size := by have := hB.size; show (ad.add (k * 2)).block < wr.heap.size; omega
      clear hblk
      have h0 : wr.drew.cell? (ad.add (k * 2)) = some (.int .i64 y.t) := h0
      have h1 : wr.drew.cell? ⟨(ad.add (k * 2)).block, (ad.add (k * 2)).off + 1, none⟩ = some (.string y.d) := h1
      have hB := hB.drew
      go_region_held3 (fun w' => w'.cell? (ad.add (k * 2)) = some (.int .i64 y.t) ∧ w'.cell? ⟨(ad.add (k * 2)).block, (ad.add (k * 2)).off + 1, none⟩ = some (.string y.d)) (first | exact ⟨h0, h1⟩ | go_keep)
        (first
          | (go_at_call 13; (with_reducible refine (HH2.out _).mono ?_); rintro e w2 ⟨rfl, hb2⟩; have h0 := (hb2.cell hlb).trans h0; have h1 := (hb2.cell (p := ⟨(ad.add (k * 2)).block, (ad.add (k * 2)).off + 1, none⟩) hlb).trans h1; have hB := hB.trans (hb2.mono hB.size); have hlb := Nat.lt_of_lt_of_le hlb hb2.size))
      go_wp2_with fail
      go_roundw
      case rel => exact ⟨k + 1, by omega, by go_num, by rw [← HQ.out], hB⟩
      case measure => simp [intOf]; omega
    · have hk9 : k = m := by omega
      subst hk9
      rw [HB0.out]
      obtain ⟨ad, rfl, hbk, hs1, h0, h1⟩ := (Sects.below HX.out hB) k x hxk2.out
      have i1 : (k : Int) < (xs.length : Int) := by omega
      have i2 : (0 : Int) ≤ (k : Int) := by omega
      obtain ⟨c1, c2, c3⟩ := HCut.out
      obtain ⟨u, hu⟩ : ∃ u, U.length = u := ⟨_, rfl⟩
      obtain ⟨v, hv⟩ : ∃ v, U.length + Y.length = v := ⟨_, rfl⟩
      obtain ⟨yl, hyl⟩ : ∃ k, Y.length = k := ⟨_, rfl⟩
      rw [hv] at c2 c3 
      rw [hu] at c1 c2 hst0 hUl hv hrl
      rw [hyl] at hYl hv hrl
      have w1 : IntKind.i64.wrap (((7 + B0 : Nat) : Int) + (H.size : Int)) = (u : Int) := by rw [IntWalk.i64_in _ (by omega)]; omega
      have w2 : IntKind.i64.wrap ((u : Int) + (x.d.size : Int)) = (u : Int) + (x.d.size : Int) := IntWalk.i64_in _ (by omega)
      have w3 : IntKind.i64.wrap ((u : Int) + (x.d.size : Int) + 4) = (v : Int) := by rw [IntWalk.i64_in _ (by omega)]; omega
      have j1 : (v : Int) ≤ (R.size : Int) := by omega
      have j2 : (u : Int) ≤ (v : Int) := by omega
      have j3 : (u : Int) ≤ (R.size : Int) := by omega
      have j4 : (0 : Int) ≤ (u : Int) := by omega
      have j5 : (0 : Int) ≤ (v : Int) := by omega
      have z0 : (str U).size ≤ 1048576 := by omega
      have z2 : (str V).size ≤ 1048576 := by omega
      have HU := Lib.hid (show str U = str U from rfl)
      have HYL := Lib.hid (show Y.length ≤ 1048576 by omega)
      generalize ((7 + B0 : Nat) : Int) = Q0 at *
      obtain ⟨SU, hSU⟩ : ∃ S, str U = S := ⟨_, rfl⟩
      obtain ⟨SY, hSY⟩ : ∃ S, str Y = S := ⟨_, rfl⟩
      obtain ⟨SV, hSV⟩ : ∃ S, str V = S := ⟨_, rfl⟩
      rw [hSU] at c1 z0
      rw [hSY] at c2 HT
      rw [hSV] at c3 z2
      have HSU := Lib.hid hSU
      have HSV := Lib.hid hSV
      clear hSU hSY hSV hst0 hst2 hUl hrl hv hyl hYl hu HU hHs hRs
      go_wp2_with ((go_at_call 13; (with_reducible refine (HH.out _).mono ?_); rintro e w3 ⟨rfl, hb3⟩; have hB := hB.trans (hb3.mono hB.size); obtain ⟨ad', hA', hbk', hs1', h0, h1⟩ := (Sects.below HX.out hB) k x hxk2.out; obtain rfl : ad = ad' := Option.some.inj hA'))
      have hB := hB.drew
      go_region_held3 (fun _ => True) (trivial)
        (first | (go_at_call 14; (with_reducible refine (HT.out _).mono ?_); rintro e w4 ⟨l, rfl, ht, hb4⟩; have hB := hB.trans (hb4.mono hB.size); have HTu := Lib.hid ht; have hls : (⟨l.toArray⟩ : ByteArray).size ≤ 1048576 := (by have := ht.1; have := HYL.out; rw [show (⟨l.toArray⟩ : ByteArray).size = l.length from str_size l]; omega); have hq1 := (fun W => run_string_add_sum (P := Try.prog) W SU ⟨l.toArray⟩ (by omega)); have hq2 := (fun W => run_string_add_sum (P := Try.prog) W (SU ++ ⟨l.toArray⟩) SV (by rw [ByteArray.size_append]; omega)); clear ht))
      have hTl : (SU ++ ⟨l.toArray⟩ ++ SV).data.toList = U ++ l ++ V := by
        rw [← HSU.out, ← HSV.out, show (⟨l.toArray⟩ : ByteArray) = str l from rfl, str_app, str_app, str_list]
      have hTs : (SU ++ (⟨l.toArray⟩ : ByteArray) ++ SV).size ≤ 1073741824 := by rw [ByteArray.size_append, ByteArray.size_append]; omega
      have hRl : R.data.toList = U ++ Y ++ V := by rw [← HRR.out, str_list, HUV.out]
      have hlY := HTu.out.1
      generalize SU ++ (⟨l.toArray⟩ : ByteArray) ++ SV = T at *
      by_cases hE : l = Y
      · have hTR : T = R := by apply ByteArray.ext; apply Array.toList_inj.1; rw [hTl, hRl, hE]
        subst hTR
        have HO := Lib.hid (fun W => (C.opens T W hTs).mono (fun _ _ h => OpenEnds.to (r := secs xs) (c := 0) h (by rw [hRl, ← HUV.out]; exact open_seal HR.out)))
        clear hTl hTs hRl hlY hE hls hq1 hq2 HUV HSU HSV HYL HTu
        go_wp2_with ((go_at_call 11; (with_reducible refine (HO.out _).mono ?_); rintro e w5 ⟨hb5, A5, cap5, ys, hys, rfl, hY5, -⟩; have hB := hB.trans (hb5.mono hB.size)))
        go_ret
        exact ⟨ret_bool (by simp), hB⟩
      · obtain ⟨P, Q, h1, h2, h3⟩ := open_burst HRP.out at_ bits HBits.out (z := l) (by rw [HYY.out]; exact HTu.out) (by rw [HYY.out]; exact hE)
        rw [HYY.out] at h1
        simp only at h2
        have hPU : P = U ∧ Q = V := by
          have e := h1.symm.trans HUV.out
          rw [List.append_assoc, List.append_assoc] at e
          obtain ⟨e1, e2⟩ := List.append_inj e (by rw [h2, HUL.out])
          exact ⟨e1, (List.append_inj e2 rfl).2⟩
        obtain ⟨rfl, rfl⟩ := hPU
        have hne : (T.toList == R.toList) = false := by
          rw [beq_eq_false_iff_ne, ByteArray.toList_eq, ByteArray.toList_eq, hTl, hRl]
          intro e
          exact hE (List.append_cancel_left (List.append_cancel_right e))
        have HO := Lib.hid (fun W => (C.opens T W hTs).mono (fun _ _ h => OpenEnds.to (r := []) (c := 8) h (by rw [hTl]; exact h3)))
        clear hTl hTs hRl hlY hE hls hq1 hq2 HUV HSU HSV HYL HTu h1 h2 h3
        go_wp2_with ((go_at_call 11; (with_reducible refine (HO.out _).mono ?_); rintro e w5 ⟨hb5, A5, cap5, ys, hys, rfl, hY5, -⟩; obtain rfl : ys = [] := secs_nil hys; simp only [List.length_nil]; have hB := hB.trans (hb5.mono hB.size)))
        go_ret
        exact ⟨ret_bool (by simp), hB⟩

end Go.Proofs.Ytfjdbbhaigjbmaa.Cont
