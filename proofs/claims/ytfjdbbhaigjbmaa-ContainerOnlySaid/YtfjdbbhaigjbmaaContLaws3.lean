/-
  The laws of layer 7, walked: there and back.
-/
import Derived.Test.YtfjdbbhaigjbmaaContLaws2
namespace Go.Proofs.Ytfjdbbhaigjbmaa.Cont
open Go.RowKit Leb Mem _root_.Go.Proofs.Ytfjdbbhaigjbmaa.Frame
set_option linter.unusedVariables false

theorem seal_err {l : List Sec} {r : List UInt8} {c : Int} (h : sealC l = (r, c)) (hc : c ≠ 0) : r = [] := by
  unfold sealC at h
  by_cases ho : ord l = false
  · rw [if_pos ho] at h; exact (congrArg Prod.fst h).symm
  · rw [if_neg ho] at h
    by_cases hb : 1048576 < 7 + (body l).length + (index l).length + 12
    · rw [if_pos hb] at h; exact (congrArg Prod.fst h).symm
    · rw [if_neg hb] at h; exact absurd (congrArg Prod.snd h).symm hc
theorem seal_is {l : List Sec} {r : List UInt8} (h : sealC l = (r, 0)) : ord l = true ∧ r = magic ++ body l ++ index l ++ Crc.tail (index l) ++ foot (7 + (body l).length) ∧ 7 + (body l).length + (index l).length + 12 ≤ 1048576 := by
  unfold sealC at h
  by_cases ho : ord l = false
  · rw [if_pos ho] at h; simp at h
  · rw [if_neg ho] at h
    by_cases hb : 1048576 < 7 + (body l).length + (index l).length + 12
    · rw [if_pos hb] at h; simp at h
    · rw [if_neg hb] at h; exact ⟨by simpa using ho, (congrArg Prod.fst h).symm, by omega⟩
theorem seal_len {l : List Sec} {r : List UInt8} (h : sealC l = (r, 0)) : r.length ≤ 1048576 := by
  obtain ⟨-, rfl, h2⟩ := seal_is h
  simp only [List.length_append, magic_len, Crc.tail_len, foot_len]
  omega
theorem lim_of_seal {ys : List Sect} {r : List UInt8} (h : sealC (secs ys) = (r, 0)) : Lim ys := by
  obtain ⟨h1, -, h2⟩ := seal_is h
  have h3 := ord_pos h1
  have h4 := body_ge (secs ys)
  rw [total_secs] at h4
  rw [secs_len] at h3
  exact ⟨by omega, by omega⟩

set_option maxRecDepth 100000 in
set_option maxHeartbeats 1000000 in
theorem containerBack_of (C : Pkg) (A : Option Addr) (cap : Nat) (xs : List Sect) (hlen : xs.length ≤ maxLen) (hcap : xs.length ≤ cap) (w : World) (hx : Sects w w.heap.size A xs) :
    Calls Try.prog 3 #[.slice A xs.length cap] w fun e w' => e = .returned (.bool true) ∧ Below w.heap.size w w' := by
  have HW := Lib.hid (works_any C w)
  have HF := Lib.hid (fun W hW => Few_any A cap xs W hW hlen)
  by_cases hf : fewB xs = true
  · have hL := lim_of_few hf
    obtain ⟨⟨r, c⟩, hr⟩ : ∃ q, sealC (secs xs) = q := ⟨_, rfl⟩
    have H1 := Lib.hid (fun W hW => (C.seals A cap xs W hW hL).mono (fun _ _ h => SealEnds.to h hr))
    by_cases hc : c = 0
    · subst hc
      have hz := seal_len hr
      have H2 := Lib.hid (fun W => (C.opens (str r) W (by rw [str_size]; omega)).mono (fun _ _ h => OpenEnds.to (r := secs xs) (c := 0) h (by rw [str_list]; exact open_seal hr)))
      generalize str r = R at *
      clear hr hz
      go_enter Try.func3, Try.ntmps3
      go_wp2_with (first
        | (go_at_call 8; refine HW.out.mono ?_; rintro e w1 ⟨rfl, hB⟩; have hS := Sects.at hx hB)
        | (go_at_call 9; refine (HF.out _ hS).mono ?_; rintro e w2 ⟨rfl, rfl⟩)
        | (go_at_call 10; refine (H1.out _ hS).mono ?_; rintro e w2 ⟨rfl, hb⟩; have hB := hB.trans (hb.mono hB.size); have hS := Sects.at hS hb)
        | (go_at_call 11; refine (H2.out _).mono ?_; rintro e w2 ⟨hb, A', cap', ys, hys, rfl, hY, -⟩; have hB := hB.trans (hb.mono hB.size); have hS := Sects.at hS hb)
        | (go_at_call 12; refine (Same_any A cap xs A' cap' ys _ hS hY hlen).mono ?_; rintro e w4 ⟨rfl, hb⟩; rw [show decide (secs xs = secs ys) = true by rw [hys]; simp]; have hB := hB.trans (hb.mono hB.size)))
      go_ret
      exact ⟨rfl, hB⟩
    · obtain rfl := seal_err hr hc
      have hc' : (c != 0) = true := by simpa using hc
      clear hr hc
      go_enter Try.func3, Try.ntmps3
      go_wp2_with (first
        | (go_at_call 8; refine HW.out.mono ?_; rintro e w1 ⟨rfl, hB⟩; have hS := Sects.at hx hB)
        | (go_at_call 9; refine (HF.out _ hS).mono ?_; rintro e w2 ⟨rfl, rfl⟩)
        | (go_at_call 10; refine (H1.out _ hS).mono ?_; rintro e w2 ⟨rfl, hb⟩; rw [show str [] = ⟨#[]⟩ from rfl]; have hB := hB.trans (hb.mono hB.size); have hS := Sects.at hS hb))
      go_ret
      exact ⟨rfl, hB⟩
  · have hf' : fewB xs = false := by simpa using hf
    go_enter Try.func3, Try.ntmps3
    go_wp2_with (first
      | (go_at_call 8; refine HW.out.mono ?_; rintro e w1 ⟨rfl, hB⟩; have hS := Sects.at hx hB)
      | (go_at_call 9; refine (HF.out _ hS).mono ?_; rintro e w2 ⟨rfl, rfl⟩))
    go_ret
    exact ⟨rfl, hB⟩

set_option maxRecDepth 100000 in
set_option maxHeartbeats 1000000 in
theorem containerOnly_of (C : Pkg) (s : ByteArray) (hs : s.size ≤ maxLen) (w : World) :
    Calls Try.prog 4 #[.string s] w fun e w' => e = .returned (.bool true) ∧ Below w.heap.size w w' := by
  have HW := Lib.hid (works_any C w)
  by_cases hf : 3000 < s.size
  · have hf' : (3000 : Int) < (s.size : Int) := by omega
    go_enter Try.func4, Try.ntmps4
    go_wp2_with ((go_at_call 8; refine HW.out.mono ?_; rintro e w1 ⟨rfl, hB⟩))
    go_ret
    exact ⟨rfl, hB⟩
  · have hf' : ¬ (3000 : Int) < (s.size : Int) := by omega
    obtain ⟨⟨r, c⟩, hr⟩ : ∃ q, openC s.data.toList = q := ⟨_, rfl⟩
    have H1 := Lib.hid (fun W => (C.opens s W (by omega)).mono (fun _ _ h => OpenEnds.to h hr))
    by_cases hc : c = 0
    · subst hc
      have hso := seal_open hr
      have H2 := Lib.hid (fun A cap (ys : List Sect) (W : World) (h : secs ys = r) (hW : Sects W W.heap.size A ys) =>
        (C.seals A cap ys W hW (lim_of_seal (by rw [h]; exact hso))).mono (fun _ _ k => SealEnds.to (r := s.data.toList) (c := 0) k (by rw [h]; exact hso)))
      rw [str_of] at H2
      clear hr hso
      go_enter Try.func4, Try.ntmps4
      go_wp2_with (first
        | (go_at_call 8; refine HW.out.mono ?_; rintro e w1 ⟨rfl, hB⟩)
        | (go_at_call 11; refine (H1.out _).mono ?_; rintro e w2 ⟨hb, A, cap, ys, hys, rfl, hY, -⟩; have hB := hB.trans (hb.mono hB.size))
        | (go_at_call 10; refine (H2.out A cap ys _ hys hY).mono ?_; rintro e w3 ⟨rfl, hb⟩; have hB := hB.trans (hb.mono hB.size)))
      go_ret
      exact ⟨ret_bool (by simp), hB⟩
    · have h0 := open_err s.data.toList (by rw [hr]; exact hc)
      rw [hr] at h0
      simp only at h0
      subst h0
      have hc' : (c != 0) = true := by simpa using hc
      clear hr hc
      go_enter Try.func4, Try.ntmps4
      go_wp2_with (first
        | (go_at_call 8; refine HW.out.mono ?_; rintro e w1 ⟨rfl, hB⟩)
        | (go_at_call 11; refine (H1.out _).mono ?_; rintro e w2 ⟨hb, A, cap, ys, hys, rfl, hY, -⟩; obtain rfl : ys = [] := List.map_eq_nil_iff.1 hys; have hB := hB.trans (hb.mono hB.size)))
      go_ret
      exact ⟨rfl, hB⟩

set_option maxRecDepth 100000 in
set_option maxHeartbeats 1000000 in
theorem containerApart_of (C : Pkg) (A : Option Addr) (cap : Nat) (xs : List Sect) (hlen : xs.length ≤ maxLen) (hcap : xs.length ≤ cap) (A' : Option Addr) (cap' : Nat) (ys : List Sect) (hlen' : ys.length ≤ maxLen) (hcap' : ys.length ≤ cap') (w : World)
    (hx : Sects w w.heap.size A xs) (hy : Sects w w.heap.size A' ys) :
    Calls Try.prog 7 #[.slice A xs.length cap, .slice A' ys.length cap'] w fun e w' => e = .returned (.bool true) ∧ Below w.heap.size w w' := by
  have HW := Lib.hid (works_any C w)
  have HF := Lib.hid (fun W hW => Few_any A cap xs W hW hlen)
  have HF' := Lib.hid (fun W hW => Few_any A' cap' ys W hW hlen')
  by_cases hf : fewB xs = true
  · by_cases hf2 : fewB ys = true
    · have hL := lim_of_few hf
      have hL' := lim_of_few hf2
      obtain ⟨⟨r, c⟩, hr⟩ : ∃ q, sealC (secs xs) = q := ⟨_, rfl⟩
      obtain ⟨⟨r', c'⟩, hr'⟩ : ∃ q, sealC (secs ys) = q := ⟨_, rfl⟩
      have H1 := Lib.hid (fun W hW => (C.seals A cap xs W hW hL).mono (fun _ _ h => SealEnds.to h hr))
      have H2 := Lib.hid (fun W hW => (C.seals A' cap' ys W hW hL').mono (fun _ _ h => SealEnds.to h hr'))
      have HS := Lib.hid (fun W hW hW' => Same_any A cap xs A' cap' ys W hW hW' hlen)
      by_cases hc : c = 0
      · by_cases hc2 : c' = 0
        · subst hc hc2
          have hq : ((str r).toList == (str r').toList) = decide (secs xs = secs ys) := by
            rw [ByteArray.toList_eq, ByteArray.toList_eq, str_list, str_list]
            by_cases q : secs xs = secs ys
            · rw [decide_eq_true q, beq_iff_eq]
              rw [q, hr'] at hr
              exact (congrArg Prod.fst hr).symm
            · rw [decide_eq_false q, beq_eq_false_iff_ne]
              rintro rfl
              exact q (seal_apart hr hr')
          generalize str r = R at *
          generalize str r' = R' at *
          generalize decide (secs xs = secs ys) = b at *
          clear hr hr'
          go_enter Try.func7, Try.ntmps7
          go_wp2_with (first
            | (go_at_call 8; refine HW.out.mono ?_; rintro e w1 ⟨rfl, hB⟩; have hS := Sects.at hx hB; have hS' := Sects.at hy hB)
            | (go_at_call 9; first | (with_reducible refine (HF.out _ hS).mono ?_; rintro e w2 ⟨rfl, rfl⟩) | (with_reducible refine (HF'.out _ hS').mono ?_; rintro e w2 ⟨rfl, rfl⟩))
            | (go_at_call 10; first | (with_reducible refine (H1.out _ hS).mono ?_; rintro e w2 ⟨rfl, hb⟩; have hB := hB.trans (hb.mono hB.size); have hS := Sects.at hS hb; have hS' := Sects.at hS' hb) | (with_reducible refine (H2.out _ hS').mono ?_; rintro e w2 ⟨rfl, hb⟩; have hB := hB.trans (hb.mono hB.size); have hS := Sects.at hS hb; have hS' := Sects.at hS' hb))
            | (go_at_call 12; refine (HS.out _ hS hS').mono ?_; rintro e w4 ⟨rfl, hb⟩; have hB := hB.trans (hb.mono hB.size)))
          go_ret
          exact ⟨ret_bool (by simp), hB⟩
        · have hc' : (c' != 0) = true := by simpa using hc2
          subst hc
          clear hr hr' hc2
          go_enter Try.func7, Try.ntmps7
          go_wp2_with
          (first
            | (go_at_call 8; refine HW.out.mono ?_; rintro e w1 ⟨rfl, hB⟩; have hS := Sects.at hx hB; have hS' := Sects.at hy hB)
            | (go_at_call 9; first | (with_reducible refine (HF.out _ hS).mono ?_; rintro e w2 ⟨rfl, rfl⟩) | (with_reducible refine (HF'.out _ hS').mono ?_; rintro e w2 ⟨rfl, rfl⟩))
            | (go_at_call 10; first | (with_reducible refine (H1.out _ hS).mono ?_; rintro e w2 ⟨rfl, hb⟩; have hB := hB.trans (hb.mono hB.size); have hS := Sects.at hS hb; have hS' := Sects.at hS' hb) | (with_reducible refine (H2.out _ hS').mono ?_; rintro e w2 ⟨rfl, hb⟩; have hB := hB.trans (hb.mono hB.size); have hS := Sects.at hS hb; have hS' := Sects.at hS' hb)))
          go_ret
          exact ⟨rfl, hB⟩
      · have hc' : (c != 0) = true := by simpa using hc
        clear hr hr' hc
        go_enter Try.func7, Try.ntmps7
        go_wp2_with
          (first
            | (go_at_call 8; refine HW.out.mono ?_; rintro e w1 ⟨rfl, hB⟩; have hS := Sects.at hx hB; have hS' := Sects.at hy hB)
            | (go_at_call 9; first | (with_reducible refine (HF.out _ hS).mono ?_; rintro e w2 ⟨rfl, rfl⟩) | (with_reducible refine (HF'.out _ hS').mono ?_; rintro e w2 ⟨rfl, rfl⟩))
            | (go_at_call 10; first | (with_reducible refine (H1.out _ hS).mono ?_; rintro e w2 ⟨rfl, hb⟩; have hB := hB.trans (hb.mono hB.size); have hS := Sects.at hS hb; have hS' := Sects.at hS' hb) | (with_reducible refine (H2.out _ hS').mono ?_; rintro e w2 ⟨rfl, hb⟩; have hB := hB.trans (hb.mono hB.size); have hS := Sects.at hS hb; have hS' := Sects.at hS' hb)))
        go_ret
        exact ⟨rfl, hB⟩
    · have hf' : fewB ys = false := by simpa using hf2
      go_enter Try.func7, Try.ntmps7
      go_wp2_with
          (first
            | (go_at_call 8; refine HW.out.mono ?_; rintro e w1 ⟨rfl, hB⟩; have hS := Sects.at hx hB; have hS' := Sects.at hy hB)
            | (go_at_call 9; first | (with_reducible refine (HF.out _ hS).mono ?_; rintro e w2 ⟨rfl, rfl⟩) | (with_reducible refine (HF'.out _ hS').mono ?_; rintro e w2 ⟨rfl, rfl⟩))
            | (go_at_call 10; first | (with_reducible refine (HF.out _ hS).mono ?_; rintro e w2 ⟨rfl, hb⟩; have hB := hB.trans (hb.mono hB.size); have hS := Sects.at hS hb; have hS' := Sects.at hS' hb) | (with_reducible refine (HF.out _ hS').mono ?_; rintro e w2 ⟨rfl, hb⟩; have hB := hB.trans (hb.mono hB.size); have hS := Sects.at hS hb; have hS' := Sects.at hS' hb)))
      go_ret
      exact ⟨rfl, hB⟩
  · have hf' : fewB xs = false := by simpa using hf
    go_enter Try.func7, Try.ntmps7
    go_wp2_with
          (first
            | (go_at_call 8; refine HW.out.mono ?_; rintro e w1 ⟨rfl, hB⟩; have hS := Sects.at hx hB; have hS' := Sects.at hy hB)
            | (go_at_call 9; first | (with_reducible refine (HF.out _ hS).mono ?_; rintro e w2 ⟨rfl, rfl⟩) | (with_reducible refine (HF'.out _ hS').mono ?_; rintro e w2 ⟨rfl, rfl⟩))
            | (go_at_call 10; first | (with_reducible refine (HF.out _ hS).mono ?_; rintro e w2 ⟨rfl, hb⟩; have hB := hB.trans (hb.mono hB.size); have hS := Sects.at hS hb; have hS' := Sects.at hS' hb) | (with_reducible refine (HF.out _ hS').mono ?_; rintro e w2 ⟨rfl, hb⟩; have hB := hB.trans (hb.mono hB.size); have hS := Sects.at hS hb; have hS' := Sects.at hS' hb)))
    go_ret
    exact ⟨rfl, hB⟩

end Go.Proofs.Ytfjdbbhaigjbmaa.Cont
