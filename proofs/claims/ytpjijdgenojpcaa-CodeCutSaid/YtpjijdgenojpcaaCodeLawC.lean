/-
  The laws of layer 10, walked: a program's bytes that are cut, or have more behind.
-/
import Derived.Test.YtpjijdgenojpcaaCodeLawA
namespace Go.Proofs.Ytpjijdgenojpcaa.Code
open Go.RowKit Leb Mem Wire _root_.Go.Proofs.Ytpjijdgenojpcaa.Arena _root_.Go.Proofs.Ytpjijdgenojpcaa.Kinds
set_option linter.unusedVariables false
attribute [local go_sem ↓] Go.wp_at_zero Go.wp_at_succ

set_option maxRecDepth 100000 in
set_option maxHeartbeats 4000000 in
theorem codeCut_walk (p : Prg) (n : Int) (wf : (Lit.int .i64 n).wf = true) (M : ByteArray) (hm : M.size ≤ maxLen) (w : World) (hpn : p.In w ∧ NB p.xs) :
    Calls Try.prog 6 #[.agg #[.int .i64 p.ps, .slice p.A p.vs.length p.c, .slice p.B p.xs.length p.e], .int .i64 n, .string M] w fun e w' => e = .returned (.bool true) ∧ Below w.heap.size w w' := by
  obtain ⟨hp, hnb⟩ := hpn
  have hB0 : Below w.heap.size w (w.alloc (.cells #[.int .i64 p.ps, .slice p.A p.vs.length p.c, .slice p.B p.xs.length p.e] 25)) := (Below.refl _ _).alloc (Nat.le_refl _) _
  have bX := Blk.new w 25 #[.int .i64 p.ps, .slice p.A p.vs.length p.c, .slice p.B p.xs.length p.e]
  have hi := hp.at hB0
  obtain ⟨wQ, hwQ⟩ : ∃ wQ, w.alloc (.cells #[.int .i64 p.ps, .slice p.A p.vs.length p.c, .slice p.B p.xs.length p.e] 25) = wQ := ⟨_, rfl⟩
  rw [hwQ] at hB0 bX hi
  have hgl := bX.lt
  have HBX := Lib.hid (fun W (h : Below wQ.heap.size wQ W) => (bX.below h hgl).three)
  have HP := Lib.hid hi
  have HWQ := Lib.hid hwQ
  have HW := Lib.hid (fun W => Code.works_any pkg W)
  have HF := Lib.hid (fun W => show Calls Try.prog 8 #[.agg #[.int .i64 p.ps, .slice p.A p.vs.length p.c, .slice p.B p.xs.length p.e]] W (fun e w' => e = .returned (.bool (fewB p)) ∧ Below W.heap.size W w') from ref_Few_any p W)
  clear hp bX hwQ hi
  cases hf : fewB p with
  | false =>
    rw [hf] at HF
    go_enter Try.func6, Try.ntmps6
    go_wp2_with (first
      | (go_at_call 7; rw [HWQ.out]; refine (HW.out _).mono ?_; rintro e w2 ⟨rfl, hb2⟩; obtain ⟨b0, b1, b2⟩ := HBX.out _ hb2)
      | (go_at_call 8; refine (HF.out _).mono ?_; rintro e w3 ⟨rfl, hb⟩; have hb3 := hb2.trans (hb.mono hb2.size)))
    go_ret
    exact ⟨rfl, hB0.trans (hb3.mono hB0.size)⟩
  | true =>
    rw [hf] at HF
    obtain ⟨q1, q2⟩ := few_ok hf
    by_cases hM : 300 < M.size ∨ M.size = 0
    · have j0 : (decide ((300 : Int) < (M.size : Int)) || ((M.size : Int) == 0)) = true := by
        rcases hM with h | h
        · rw [decide_eq_true (by omega)]; rfl
        · rw [h]; simp
      by_cases h3 : 300 < M.size
      · have j1 : (300 : Int) < (M.size : Int) := by omega
        clear j0 hM
        go_enter Try.func6, Try.ntmps6
        go_wp2_with (first
          | (go_at_call 7; rw [HWQ.out]; refine (HW.out _).mono ?_; rintro e w2 ⟨rfl, hb2⟩; obtain ⟨b0, b1, b2⟩ := HBX.out _ hb2)
          | (go_at_call 8; refine (HF.out _).mono ?_; rintro e w3 ⟨rfl, hb⟩; have hb3 := hb2.trans (hb.mono hb2.size)))
        go_ret
        exact ⟨rfl, hB0.trans (hb3.mono hB0.size)⟩
      · have j1 : ¬ (300 : Int) < (M.size : Int) := by omega
        have j2 : ((M.size : Int) == 0) = true := by rw [beq_iff_eq]; omega
        clear j0 hM h3
        go_enter Try.func6, Try.ntmps6
        go_wp2_with (first
          | (go_at_call 7; rw [HWQ.out]; refine (HW.out _).mono ?_; rintro e w2 ⟨rfl, hb2⟩; obtain ⟨b0, b1, b2⟩ := HBX.out _ hb2)
          | (go_at_call 8; refine (HF.out _).mono ?_; rintro e w3 ⟨rfl, hb⟩; have hb3 := hb2.trans (hb.mono hb2.size)))
        go_ret
        exact ⟨rfl, hB0.trans (hb3.mono hB0.size)⟩
    have j1 : ¬ (300 : Int) < (M.size : Int) := by omega
    have j2 : ((M.size : Int) == 0) = false := by rw [beq_eq_false_iff_ne]; omega
    have HQ := Lib.hid (fun W (h : p.Ok W) => pkg.put p W h hnb)
    obtain ⟨c, hc⟩ : ∃ c, pcheck p.ps p.vs p.xs = c := ⟨_, rfl⟩
    by_cases h0 : c = 0
    rotate_left
    · rw [hc] at HQ
      have e1 : (c == 0) = false := by simpa using h0
      have e2 : (c != 0) = true := by simpa using h0
      generalize (⟨(pput p.ps p.vs p.xs).toArray⟩ : ByteArray) = S at *
      clear hc h0 hM hnb
      go_enter Try.func6, Try.ntmps6
      go_wp2_with (first
        | (go_at_call 7; rw [HWQ.out]; refine (HW.out _).mono ?_; rintro e w2 ⟨rfl, hb2⟩; obtain ⟨b0, b1, b2⟩ := HBX.out _ hb2)
        | (go_at_call 8; refine (HF.out _).mono ?_; rintro e w3 ⟨rfl, hb⟩; have hb3 := hb2.trans (hb.mono hb2.size); obtain ⟨b0, b1, b2⟩ := HBX.out _ hb3)
        | (go_at_call 9; refine (HQ.out _ ((HP.out.at hb3).ok q1 q2)).mono ?_; rintro e w4 ⟨rfl, hb⟩; have hb4 := hb3.trans (hb.mono hb3.size)))
      go_ret
      exact ⟨rfl, hB0.trans (hb4.mono hB0.size)⟩
    subst h0
    have g := good_of hc hnb
    have hlen := cput_len g
    have hpp : pput p.ps p.vs p.xs = cput p.ps p.vs p.xs := by unfold pput; rw [if_pos hc]
    rw [hpp, hc] at HQ
    obtain ⟨S, hS⟩ : ∃ S : ByteArray, (⟨(cput p.ps p.vs p.xs).toArray⟩ : ByteArray) = S := ⟨_, rfl⟩
    have hSl : S.data.toList = cput p.ps p.vs p.xs := by rw [← hS]
    have hsz : S.size ≤ 3000 := by rw [← hS, cstr_size]; omega
    have hSs : S.size = (cput p.ps p.vs p.xs).length := by rw [← hS, cstr_size]
    rw [hS] at HQ
    have hq1 := fun W => run_string_add_sum (P := Try.prog) W S M (by omega)
    have hMl : M.data.toList ≠ [] := by
      intro q
      have : M.data.toList.length = M.size := by simp
      rw [q, List.length_nil] at this
      omega
    have hno : ¬ fits (S ++ M) := fits_more hc hnb hMl (by rw [← hSl]; simp)
    have HG := Lib.hid (fun W => (pkg.get (S ++ M) W (by rw [ByteArray.size_append]; omega)).mono (fun e w' h => h.no hno))
    have hcut : ∀ k : Nat, k < S.size → ¬ fits (S.extract 0 k) := fun k hk => fits_cut hc hnb (n := k) (by omega) (by rw [extract_strB, strB_list, hSl]; simp)
    have HC := Lib.hid hcut
    clear hc g hlen hpp hS hSl hSs hMl hno hcut hnb hM
    by_cases hn : n < 0 ∨ S.size ≤ n
    · by_cases hn0 : n < 0
      · clear hn
        go_enter Try.func6, Try.ntmps6
        go_wp2_with (first
          | (go_at_call 7; rw [HWQ.out]; refine (HW.out _).mono ?_; rintro e w2 ⟨rfl, hb2⟩; obtain ⟨b0, b1, b2⟩ := HBX.out _ hb2)
          | (go_at_call 8; refine (HF.out _).mono ?_; rintro e w3 ⟨rfl, hb⟩; have hb3 := hb2.trans (hb.mono hb2.size); obtain ⟨b0, b1, b2⟩ := HBX.out _ hb3)
          | (go_at_call 9; refine (HQ.out _ ((HP.out.at hb3).ok q1 q2)).mono ?_; rintro e w4 ⟨rfl, hb⟩; have hb4 := hb3.trans (hb.mono hb3.size)))
        refine (HG.out _).mono ?_
        rintro e w5 ⟨hb, A, cc, B, ce, rfl, -⟩
        have hb5 := hb4.trans (hb.mono hb4.size)
        have hb6 := hb5.alloc hb5.size (.cells #[.int .i64 0, .slice A 0 cc, .slice B 0 ce] 25)
        go_wp2_with fail
        go_ret
        exact ⟨rfl, hB0.trans (hb6.mono hB0.size)⟩
      · have hn1 : (S.size : Int) ≤ n := by omega
        have hn2 : ¬ n < (S.size : Int) := by omega
        clear hn
        go_enter Try.func6, Try.ntmps6
        go_wp2_with (first
          | (go_at_call 7; rw [HWQ.out]; refine (HW.out _).mono ?_; rintro e w2 ⟨rfl, hb2⟩; obtain ⟨b0, b1, b2⟩ := HBX.out _ hb2)
          | (go_at_call 8; refine (HF.out _).mono ?_; rintro e w3 ⟨rfl, hb⟩; have hb3 := hb2.trans (hb.mono hb2.size); obtain ⟨b0, b1, b2⟩ := HBX.out _ hb3)
          | (go_at_call 9; refine (HQ.out _ ((HP.out.at hb3).ok q1 q2)).mono ?_; rintro e w4 ⟨rfl, hb⟩; have hb4 := hb3.trans (hb.mono hb3.size)))
        refine (HG.out _).mono ?_
        rintro e w5 ⟨hb, A, cc, B, ce, rfl, -⟩
        have hb5 := hb4.trans (hb.mono hb4.size)
        have hb6 := hb5.alloc hb5.size (.cells #[.int .i64 0, .slice A 0 cc, .slice B 0 ce] 25)
        go_wp2_with fail
        go_ret
        exact ⟨rfl, hB0.trans (hb6.mono hB0.size)⟩
    · obtain ⟨k, rfl⟩ := Int.eq_ofNat_of_zero_le (show 0 ≤ n by omega)
      have hk : k < S.size := by omega
      have n1 : ¬ (k : Int) < 0 := by omega
      have n2 : ¬ (S.size : Int) ≤ (k : Int) := by omega
      have n3 : (k : Int) < (S.size : Int) := by omega
      have n4 : (k : Int) ≤ (S.size : Int) := by omega
      have n5 : (0 : Int) ≤ (k : Int) := by omega
      have n6 : k ≤ S.size := by omega
      have hno := HC.out k hk
      have HG2 := Lib.hid (fun W => (pkg.get (S.extract 0 k) W (by rw [ByteArray.size_extract]; omega)).mono (fun e w' h => h.no hno))
      clear hn hno
      go_enter Try.func6, Try.ntmps6
      go_wp2_with (first
        | (go_at_call 7; rw [HWQ.out]; refine (HW.out _).mono ?_; rintro e w2 ⟨rfl, hb2⟩; obtain ⟨b0, b1, b2⟩ := HBX.out _ hb2)
        | (go_at_call 8; refine (HF.out _).mono ?_; rintro e w3 ⟨rfl, hb⟩; have hb3 := hb2.trans (hb.mono hb2.size); obtain ⟨b0, b1, b2⟩ := HBX.out _ hb3)
        | (go_at_call 9; refine (HQ.out _ ((HP.out.at hb3).ok q1 q2)).mono ?_; rintro e w4 ⟨rfl, hb⟩; have hb4 := hb3.trans (hb.mono hb3.size)))
      refine (HG.out _).mono ?_
      rintro e w5 ⟨hb, A, cc, B, ce, rfl, -⟩
      have hb5 := hb4.trans (hb.mono hb4.size)
      have hb6 := hb5.alloc hb5.size (.cells #[.int .i64 0, .slice A 0 cc, .slice B 0 ce] 25)
      go_wp2_with fail
      refine (HG2.out _).mono ?_
      rintro e w7 ⟨hb, A', cc', B', ce', rfl, -⟩
      have hb7 := hb6.trans (hb.mono hb6.size)
      have hb8 := hb7.alloc hb7.size (.cells #[.int .i64 0, .slice A' 0 cc', .slice B' 0 ce'] 25)
      go_wp2_with fail
      go_ret
      exact ⟨rfl, hB0.trans (hb8.mono hB0.size)⟩

end Go.Proofs.Ytpjijdgenojpcaa.Code
