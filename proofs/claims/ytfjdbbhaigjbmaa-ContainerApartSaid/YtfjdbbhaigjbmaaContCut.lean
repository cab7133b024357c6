/-
  The laws of layer 7, walked: what is cut, or has more ahead.
-/
import Derived.Test.YtfjdbbhaigjbmaaContLaws3
namespace Go.Proofs.Ytfjdbbhaigjbmaa.Cont
open Go.RowKit Leb Mem _root_.Go.Proofs.Ytfjdbbhaigjbmaa.Frame
set_option linter.unusedVariables false

theorem secs_nil {ys : List Sect} (h : secs ys = []) : ys = [] := by
  unfold secs at h
  exact List.map_eq_nil_iff.1 h
/-- What is opened was sealed just so; else there is none. -/
theorem open_is {l : List UInt8} {r : List Sec} {c : Int} (h : openC l = (r, c)) : (c = 0 ∧ sealC r = (l, 0) ∧ 1 ≤ r.length) ∨ (c ≠ 0 ∧ r = []) := by
  by_cases hc : c = 0
  · subst hc
    have hs := seal_open h
    exact .inl ⟨rfl, hs, (ord_pos (seal_is hs).1).1⟩
  · have := open_err l (by rw [h]; exact hc)
    rw [h] at this
    exact .inr ⟨hc, this⟩

set_option maxRecDepth 100000 in
set_option maxHeartbeats 2000000 in
theorem containerCut_of (C : Pkg) (A : Option Addr) (cap : Nat) (xs : List Sect) (hlen : xs.length ≤ maxLen) (hcap : xs.length ≤ cap) (n : Int) (hn : (Lit.int .i64 n).wf = true) (more : ByteArray) (hm : more.size ≤ maxLen) (w : World) (hx : Sects w w.heap.size A xs) :
    Calls Try.prog 6 #[.slice A xs.length cap, .int .i64 n, .string more] w fun e w' => e = .returned (.bool true) ∧ Below w.heap.size w w' := by
  have HW := Lib.hid (works_any C w)
  have HF := Lib.hid (fun W hW => Few_any A cap xs W hW hlen)
  by_cases hf : fewB xs = true
  rotate_left
  · have hf' : fewB xs = false := by simpa using hf
    go_enter Try.func6, Try.ntmps6
    go_wp2_with (first
      | (go_at_call 8; refine HW.out.mono ?_; rintro e w1 ⟨rfl, hB⟩; have hS := Sects.at hx hB)
      | (go_at_call 9; refine (HF.out _ hS).mono ?_; rintro e w2 ⟨rfl, rfl⟩))
    go_ret
    exact ⟨rfl, hB⟩
  by_cases hm1 : 3000 < more.size
  · have hm1' : (3000 : Int) < (more.size : Int) := by omega
    go_enter Try.func6, Try.ntmps6
    go_wp2_with (first
      | (go_at_call 8; refine HW.out.mono ?_; rintro e w1 ⟨rfl, hB⟩; have hS := Sects.at hx hB)
      | (go_at_call 9; refine (HF.out _ hS).mono ?_; rintro e w2 ⟨rfl, rfl⟩))
    go_ret
    exact ⟨rfl, hB⟩
  have hm1' : ¬ (3000 : Int) < (more.size : Int) := by omega
  by_cases hm2 : more.size = 0
  · have hm2' : ((more.size : Int) == 0) = true := by rw [hm2]; rfl
    go_enter Try.func6, Try.ntmps6
    go_wp2_with (first
      | (go_at_call 8; refine HW.out.mono ?_; rintro e w1 ⟨rfl, hB⟩; have hS := Sects.at hx hB)
      | (go_at_call 9; refine (HF.out _ hS).mono ?_; rintro e w2 ⟨rfl, rfl⟩))
    go_ret
    exact ⟨rfl, hB⟩
  have hm2' : ((more.size : Int) == 0) = false := by rw [beq_eq_false_iff_ne]; omega
  have hL := lim_of_few hf
  obtain ⟨⟨r, c⟩, hr⟩ : ∃ q, sealC (secs xs) = q := ⟨_, rfl⟩
  have H1 := Lib.hid (fun W hW => (C.seals A cap xs W hW hL).mono (fun _ _ h => SealEnds.to h hr))
  by_cases hc : c = 0
  rotate_left
  · have hc' : (c != 0) = true := by simpa using hc
    clear hr hc
    go_enter Try.func6, Try.ntmps6
    go_wp2_with (first
      | (go_at_call 8; refine HW.out.mono ?_; rintro e w1 ⟨rfl, hB⟩; have hS := Sects.at hx hB)
      | (go_at_call 9; refine (HF.out _ hS).mono ?_; rintro e w2 ⟨rfl, rfl⟩)
      | (go_at_call 10; refine (H1.out _ hS).mono ?_; rintro e w2 ⟨rfl, hb⟩; have hB := hB.trans (hb.mono hB.size)))
    go_ret
    exact ⟨rfl, hB⟩
  subst hc
  have hz := seal_len hr
  obtain ⟨R, hR⟩ : ∃ R, str r = R := ⟨_, rfl⟩
  have hRs : R.size ≤ 1048576 := by rw [← hR, str_size]; exact hz
  rw [hR] at H1
  clear hz hr hR
  by_cases hn0 : n < 0
  · go_enter Try.func6, Try.ntmps6
    go_wp2_with (first
      | (go_at_call 8; refine HW.out.mono ?_; rintro e w1 ⟨rfl, hB⟩; have hS := Sects.at hx hB)
      | (go_at_call 9; refine (HF.out _ hS).mono ?_; rintro e w2 ⟨rfl, rfl⟩)
      | (go_at_call 10; refine (H1.out _ hS).mono ?_; rintro e w2 ⟨rfl, hb⟩; have hB := hB.trans (hb.mono hB.size)))
    go_ret
    exact ⟨rfl, hB⟩
  by_cases hn1 : (R.size : Int) ≤ n
  · have hn0' : 0 ≤ n := by omega
    go_enter Try.func6, Try.ntmps6
    go_wp2_with (first
      | (go_at_call 8; refine HW.out.mono ?_; rintro e w1 ⟨rfl, hB⟩; have hS := Sects.at hx hB)
      | (go_at_call 9; refine (HF.out _ hS).mono ?_; rintro e w2 ⟨rfl, rfl⟩)
      | (go_at_call 10; refine (H1.out _ hS).mono ?_; rintro e w2 ⟨rfl, hb⟩; have hB := hB.trans (hb.mono hB.size)))
    go_ret
    exact ⟨rfl, hB⟩
  obtain ⟨k, rfl⟩ := Int.eq_ofNat_of_zero_le (show 0 ≤ n by omega)
  have hk : k < R.size := by omega
  have hk0 : ¬ (k : Int) < 0 := by omega
  have hk1 : ¬ (R.size : Int) ≤ (k : Int) := by omega
  have hk2 : (k : Int) ≤ (R.size : Int) := by omega
  have hk3 : (0 : Int) ≤ (k : Int) := by omega
  obtain ⟨K, hK⟩ : ∃ K, R.extract 0 k = K := ⟨_, rfl⟩
  have hKs : K.size ≤ 1048576 := by rw [← hK, ByteArray.size_extract]; omega
  have hq1 := fun W => run_string_add_sum (P := Try.prog) W more R (by omega)
  obtain ⟨M, hM⟩ : ∃ M, more ++ R = M := ⟨_, rfl⟩
  have hMs : M.size ≤ 1073741824 := by rw [← hM, ByteArray.size_append]; omega
  rw [hM] at hq1
  clear hM
  obtain ⟨⟨ra, fa⟩, ha⟩ : ∃ q, openC K.data.toList = q := ⟨_, rfl⟩
  obtain ⟨⟨rb, fb⟩, hb⟩ : ∃ q, openC M.data.toList = q := ⟨_, rfl⟩
  have HA := Lib.hid (fun W => (C.opens K W (by omega)).mono (fun _ _ h => OpenEnds.to h ha))
  have HB := Lib.hid (fun W => (C.opens M W (by omega)).mono (fun _ _ h => OpenEnds.to h hb))
  have HS0 := Lib.hid (show ∀ (A : Option Addr) (cap : Nat) (W : World), Calls Try.prog 10 #[.slice A 0 cap] W (fun e w' => e = .returned (.tuple #[.string (str []), .int .i64 20]) ∧ Below W.heap.size W w') from fun A cap W => (C.seals A cap [] W (fun i x hx => by simp at hx) ⟨by decide, by decide⟩).mono (fun _ _ h => SealEnds.to h seal_0))
  have hsl : ∀ (X : ByteArray) (q : List Sec), sealC q = (X.data.toList, 0) → Hid (∀ (A : Option Addr) (cap : Nat) (ys : List Sect) (W : World), secs ys = q → Sects W W.heap.size A ys →
      Calls Try.prog 10 #[.slice A ys.length cap] W fun e w' => e = .returned (.tuple #[.string X, .int .i64 0]) ∧ Below W.heap.size W w') := by
    intro X q hq
    refine Lib.hid (fun A cap ys W h hW => ?_)
    exact (C.seals A cap ys W hW (lim_of_seal (by rw [h]; exact hq))).mono (fun _ _ k => SealEnds.to (r := X.data.toList) (c := 0) k (by rw [h]; exact hq))
  have hA' := open_is ha
  have hB' := open_is hb
  clear ha hb hRs hKs hMs hn hn0 hn1 hk
  rcases hB' with ⟨rfl, hsb, hpb⟩ | ⟨hfb, rfl⟩
  · have HB2 := hsl _ _ hsb
    rcases hA' with ⟨rfl, hsa, hpa⟩ | ⟨hfa, rfl⟩
    · clear hsl hsa hsb
      go_enter Try.func6, Try.ntmps6
      go_wp2_with (first
        | (go_at_call 8; refine HW.out.mono ?_; rintro e w1 ⟨rfl, hB⟩; have hS := Sects.at hx hB)
        | (go_at_call 9; refine (HF.out _ hS).mono ?_; rintro e w2 ⟨rfl, rfl⟩)
        | (go_at_call 11; first
          | (with_reducible refine (HA.out _).mono ?_; rintro e w3 ⟨hb, A1, cap1, ys, hys, rfl, hY, -⟩; have hB := hB.trans (hb.mono hB.size); have hyl : 0 < ys.length := by rw [← hys, secs_len] at hpa; omega)
          | (with_reducible refine (HB.out _).mono ?_; rintro e w4 ⟨hb, A2, cap2, zs, hzs, rfl, hZ, -⟩; have hB := hB.trans (hb.mono hB.size); have hzl : 0 < zs.length := by rw [← hzs, secs_len] at hpb; omega))
        | (go_at_call 10; first
          | (with_reducible refine (H1.out _ hS).mono ?_; rintro e w2 ⟨rfl, hb⟩; have hB := hB.trans (hb.mono hB.size))
          | (with_reducible refine (HB2.out A2 cap2 zs _ hzs hZ).mono ?_; rintro e w5 ⟨rfl, hb⟩; have hB := hB.trans (hb.mono hB.size))))
      go_ret
      exact ⟨ret_bool (by simp), hB⟩
    · have hfa' : (fa != 0) = true := by simpa using hfa
      have hfa2 : (fa == 0) = false := by simpa using hfa
      clear hsl hsb hfa
      go_enter Try.func6, Try.ntmps6
      go_wp2_with (first
        | (go_at_call 8; refine HW.out.mono ?_; rintro e w1 ⟨rfl, hB⟩; have hS := Sects.at hx hB)
        | (go_at_call 9; refine (HF.out _ hS).mono ?_; rintro e w2 ⟨rfl, rfl⟩)
        | (go_at_call 11; first
          | (with_reducible refine (HA.out _).mono ?_; rintro e w3 ⟨hb, A1, cap1, ys, hys, rfl, hY, -⟩; have hB := hB.trans (hb.mono hB.size); obtain rfl : ys = [] := secs_nil hys; simp only [List.length_nil])
          | (with_reducible refine (HB.out _).mono ?_; rintro e w4 ⟨hb, A2, cap2, zs, hzs, rfl, hZ, -⟩; have hB := hB.trans (hb.mono hB.size); have hYZ := Sects.at hY hb; have hzl : 0 < zs.length := by rw [← hzs, secs_len] at hpb; omega))
        | (go_at_call 10; first
          | (with_reducible refine (H1.out _ hS).mono ?_; rintro e w2 ⟨rfl, hb⟩; have hB := hB.trans (hb.mono hB.size))
          | (with_reducible refine (HB2.out A2 cap2 zs _ hzs hZ).mono ?_; rintro e w5 ⟨rfl, hb⟩; have hB := hB.trans (hb.mono hB.size))))
      go_ret
      exact ⟨ret_bool (by simp), hB⟩
  · have hfb' : (fb != 0) = true := by simpa using hfb
    have hfb2 : (fb == 0) = false := by simpa using hfb
    clear hfb
    rcases hA' with ⟨rfl, hsa, hpa⟩ | ⟨hfa, rfl⟩
    · have HA2 := hsl _ _ hsa
      clear hsl hsa
      go_enter Try.func6, Try.ntmps6
      go_wp2_with (first
        | (go_at_call 8; refine HW.out.mono ?_; rintro e w1 ⟨rfl, hB⟩; have hS := Sects.at hx hB)
        | (go_at_call 9; refine (HF.out _ hS).mono ?_; rintro e w2 ⟨rfl, rfl⟩)
        | (go_at_call 11; first
          | (with_reducible refine (HA.out _).mono ?_; rintro e w3 ⟨hb, A1, cap1, ys, hys, rfl, hY, -⟩; have hB := hB.trans (hb.mono hB.size); have hyl : 0 < ys.length := by rw [← hys, secs_len] at hpa; omega)
          | (with_reducible refine (HB.out _).mono ?_; rintro e w4 ⟨hb, A2, cap2, zs, hzs, rfl, hZ, -⟩; have hB := hB.trans (hb.mono hB.size); have hYZ := Sects.at hY hb; obtain rfl : zs = [] := secs_nil hzs; simp only [List.length_nil]))
        | (go_at_call 10; first
          | (with_reducible refine (H1.out _ hS).mono ?_; rintro e w2 ⟨rfl, hb⟩; have hB := hB.trans (hb.mono hB.size))
          | (with_reducible refine (HA2.out A1 cap1 ys _ hys hYZ).mono ?_; rintro e w5 ⟨rfl, hb⟩; have hB := hB.trans (hb.mono hB.size))))
      go_ret
      exact ⟨ret_bool (by simp), hB⟩
    · have hfa' : (fa != 0) = true := by simpa using hfa
      have hfa2 : (fa == 0) = false := by simpa using hfa
      clear hsl hfa
      go_enter Try.func6, Try.ntmps6
      go_wp2_with (first
        | (go_at_call 8; refine HW.out.mono ?_; rintro e w1 ⟨rfl, hB⟩; have hS := Sects.at hx hB)
        | (go_at_call 9; refine (HF.out _ hS).mono ?_; rintro e w2 ⟨rfl, rfl⟩)
        | (go_at_call 11; first
          | (with_reducible refine (HA.out _).mono ?_; rintro e w3 ⟨hb, A1, cap1, ys, hys, rfl, hY, -⟩; have hB := hB.trans (hb.mono hB.size); obtain rfl : ys = [] := secs_nil hys; simp only [List.length_nil])
          | (with_reducible refine (HB.out _).mono ?_; rintro e w4 ⟨hb, A2, cap2, zs, hzs, rfl, hZ, -⟩; have hB := hB.trans (hb.mono hB.size); have hYZ := Sects.at hY hb; obtain rfl : zs = [] := secs_nil hzs; simp only [List.length_nil]))
        | (go_at_call 10; first
          | (with_reducible refine (H1.out _ hS).mono ?_; rintro e w2 ⟨rfl, hb⟩; have hB := hB.trans (hb.mono hB.size))
          | (with_reducible refine (HS0.out A1 cap1 _).mono ?_; rintro e w5 ⟨rfl, hb⟩; have hB := hB.trans (hb.mono hB.size))))
      go_ret
      exact ⟨ret_bool (by simp), hB⟩

end Go.Proofs.Ytfjdbbhaigjbmaa.Cont
