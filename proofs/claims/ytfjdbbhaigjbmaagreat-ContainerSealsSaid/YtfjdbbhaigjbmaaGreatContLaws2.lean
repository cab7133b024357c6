/-
  The laws of layer 7, walked: what is sealed, opened, and both ways.
-/
import Derived.Test.YtfjdbbhaigjbmaaGreatContLaws
namespace Go.Proofs.YtfjdbbhaigjbmaaGreat.Cont
open Go.RowKit Leb Mem _root_.Go.Proofs.YtfjdbbhaigjbmaaGreat.Frame

set_option linter.unusedVariables false

theorem lim_of_few {xs : List Sect} (h : fewB xs = true) : Lim xs := by
  unfold fewB at h
  have := of_decide_eq_true h
  exact ⟨by omega, by omega⟩

theorem open_len {l : List UInt8} {r : List Sec} {c : Int} (h : openC l = (r, c)) : r.length ≤ 1000000 := by
  by_cases hc : c = 0
  · subst hc
    have hs := seal_open h
    have := ord_pos (l := r) (by
      unfold sealC at hs
      by_cases ho : ord r = false
      · rw [if_pos ho] at hs; simp at hs
      · simpa using ho)
    omega
  · have := open_err l (by rw [h]; exact hc)
    rw [h] at this
    simp only at this
    rw [this]; simp

set_option maxRecDepth 100000 in
set_option maxHeartbeats 1000000 in
theorem containerSeals_of (C : Pkg) (A : Option Addr) (cap : Nat) (xs : List Sect) (hlen : xs.length ≤ maxLen) (hcap : xs.length ≤ cap) (w : World) (hx : Sects w w.heap.size A xs) :
    Calls Tryz.prog 3 #[.slice A xs.length cap] w fun e w' => e = .returned (.bool true) ∧ Below w.heap.size w w' := by
  have HW := Lib.hid (works_any C w)
  have HF := Lib.hid (fun W hW => Few_any A cap xs W hW hlen)
  by_cases hf : fewB xs = true
  · have hL := lim_of_few hf
    obtain ⟨⟨r, c⟩, hr⟩ : ∃ q, sealC (secs xs) = q := ⟨_, rfl⟩
    have H1 := Lib.hid (fun W hW => (C.seals A cap xs W hW hL).mono (fun _ _ h => SealEnds.to h hr))
    have H2 := Lib.hid (fun W hW => (ref_Seal_any A cap xs W hW hL).mono (fun _ _ h => SealEnds.to h hr))
    have H3 := Lib.hid (fun W hW => C.index A cap xs W hW hL)
    have H4 := Lib.hid (fun W hW => ref_Index_any A cap xs W hW hL)
    generalize str (index (secs xs)) = I at *
    generalize str r = R at *
    clear hr
    go_enter Tryz.func3, Tryz.ntmps3
    go_wp2_with (first
      | (go_at_call 5; refine HW.out.mono ?_; rintro e w1 ⟨rfl, hB⟩; have hS := Sects.at hx hB)
      | (go_at_call 6; refine (HF.out _ hS).mono ?_; rintro e w2 ⟨rfl, rfl⟩)
      | (go_at_call 7; refine (H1.out _ hS).mono ?_; rintro e w2 ⟨rfl, hb⟩; have hB := hB.trans (hb.mono hB.size); have hS := Sects.at hS hb)
      | (go_at_call 8; refine (H2.out _ hS).mono ?_; rintro e w2 ⟨rfl, hb⟩; have hB := hB.trans (hb.mono hB.size); have hS := Sects.at hS hb)
      | (go_at_call 9; refine (H3.out _ hS).mono ?_; rintro e w2 ⟨rfl, hb⟩; have hB := hB.trans (hb.mono hB.size); have hS := Sects.at hS hb)
      | (go_at_call 10; refine (H4.out _ hS).mono ?_; rintro e w2 ⟨rfl, hb⟩; have hB := hB.trans (hb.mono hB.size); have hS := Sects.at hS hb))
    go_ret
    exact ⟨ret_bool (by simp), hB⟩
  · have hf' : fewB xs = false := by simpa using hf
    go_enter Tryz.func3, Tryz.ntmps3
    go_wp2_with (first
      | (go_at_call 5; refine HW.out.mono ?_; rintro e w1 ⟨rfl, hB⟩; have hS := Sects.at hx hB)
      | (go_at_call 6; refine (HF.out _ hS).mono ?_; rintro e w2 ⟨rfl, rfl⟩))
    go_ret
    exact ⟨rfl, hB⟩

set_option maxRecDepth 100000 in
set_option maxHeartbeats 1000000 in
theorem containerOpens_of (C : Pkg) (s : ByteArray) (hs : s.size ≤ maxLen) (w : World) :
    Calls Tryz.prog 4 #[.string s] w fun e w' => e = .returned (.bool true) ∧ Below w.heap.size w w' := by
  have HW := Lib.hid (works_any C w)
  by_cases hf : 3000 < s.size
  · have hf' : (3000 : Int) < (s.size : Int) := by omega
    go_enter Tryz.func4, Tryz.ntmps4
    go_wp2_with ((go_at_call 5; refine HW.out.mono ?_; rintro e w1 ⟨rfl, hB⟩))
    go_ret
    exact ⟨rfl, hB⟩
  · have hf' : ¬ (3000 : Int) < (s.size : Int) := by omega
    obtain ⟨⟨r, c⟩, hr⟩ : ∃ q, openC s.data.toList = q := ⟨_, rfl⟩
    have H1 := Lib.hid (fun W => (C.opens s W (by omega)).mono (fun _ _ h => OpenEnds.to h hr))
    have H2 := Lib.hid (fun W => (ref_Open_any s (by omega) W).mono (fun _ _ h => OpenEnds.to h hr))
    have hrl : r.length ≤ 1000000 := open_len hr
    clear hr
    go_enter Tryz.func4, Tryz.ntmps4
    go_wp2_with (first
      | (go_at_call 5; refine HW.out.mono ?_; rintro e w1 ⟨rfl, hB⟩)
      | (go_at_call 11; refine (H1.out _).mono ?_; rintro e w2 ⟨hb, A, cap, ys, hys, rfl, hY, -⟩; have hB := hB.trans (hb.mono hB.size))
      | (go_at_call 12; refine (H2.out _).mono ?_; rintro e w3 ⟨hb, A', cap', zs, hzs, rfl, hZ, -⟩; have hB := hB.trans (hb.mono hB.size); have hY := Sects.at hY hb)
      | (go_at_call 13; refine (Same_any A cap ys A' cap' zs _ hY hZ (by have h0 : ys.length = r.length := (by rw [← hys, secs_len]); unfold maxLen; omega)).mono ?_; rintro e w4 ⟨rfl, hb⟩; rw [show decide (secs ys = secs zs) = true by rw [hys, hzs]; simp]; have hB := hB.trans (hb.mono hB.size)))
    go_ret
    exact ⟨ret_bool (by simp), hB⟩

end Go.Proofs.YtfjdbbhaigjbmaaGreat.Cont
