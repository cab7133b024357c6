/-
  The laws of layer 6, walked: what is put is got back; bits that are turned; unlike sections.
-/
import Derived.Test.YthimplhfmamejaaFrameLaws
namespace Go.Proofs.Ythimplhfmamejaa.Frame
open Go.RowKit Leb Mem

attribute [local go_sem ↓] Go.wp_at_zero Go.wp_at_succ

theorem list_app (a b : ByteArray) : (a ++ b).data.toList = a.data.toList ++ b.data.toList := by rw [ByteArray.data_append, Array.toList_append]

/-- What putting comes to, either way. -/
theorem fPut_cases (t : Int) (l : List UInt8) : (∃ c : Int, c ≠ 0 ∧ fPut t l = ([], c)) ∨ (0 ≤ t ∧ t ≤ 255 ∧ l.length ≤ 1048576 ∧ fPut t l = (fput t l, 0)) := by
  unfold fPut
  split
  · exact .inl ⟨1, by decide, rfl⟩
  · split
    · exact .inl ⟨4, by decide, rfl⟩
    · exact .inr ⟨by omega, by omega, by omega, rfl⟩

set_option maxRecDepth 100000 in
set_option maxHeartbeats 1000000 in
theorem frameBack_walk (t : Int) (d : ByteArray) (x : ByteArray) (_hx : x.size ≤ maxLen) (y : ByteArray) (_hy : y.size ≤ maxLen) (w : World) :
    Calls Try.prog 5 #[.agg #[.int .i64 t, .string d], .string x, .string y] w fun e w' => e = .returned (.bool true) ∧ Below w.heap.size w w' := by
  have bP := Blk.new w 23 #[.int .i64 t, .string d]
  have hB0 : Below w.heap.size w (w.alloc (.cells #[.int .i64 t, .string d] 23)) := (Below.refl _ _).alloc (Nat.le_refl _) _
  by_cases hg : d.size ≤ 1000 ∧ x.size ≤ 1000 ∧ y.size ≤ 1000
  · obtain ⟨hd, hx, hy⟩ := hg
    rcases fPut_cases t d.data.toList with ⟨c, hc, hl⟩ | ⟨t0, t1, t2, hl⟩
    · have HL := Lib.hid hl
      have e0 : (c == 0) = false := by simpa using hc
      have e1 : (c != 0) = true := by simpa using hc
      clear hl hc
      go_enter Try.func5, Try.ntmps5
      go_wp2_with fail
      refine (works_any _).mono ?_
      rintro e w1 ⟨rfl, hb1⟩
      have bP1 := bP.below hb1 bP.lt
      have hB1 := hB0.trans (hb1.mono hB0.size)
      obtain ⟨c0, c1⟩ := bP1.two
      clear hb1 hB0 bP
      go_wp2_with fail
      refine (Put_any t d (by omega) _).mono ?_
      intro e w2 hq
      obtain ⟨rfl, hb2⟩ := hq.to HL.out
      rw [show str [] = ⟨#[]⟩ from rfl]
      go_wp2_with fail
      go_ret
      exact ⟨rfl, hB1.trans (hb2.mono hB1.size)⟩
    · have HL := Lib.hid hl
      have hfl := fput_len t d.data.toList
      have hhl := head_len t d.data.toList
      have hp := lput_len10 (n := d.data.toList.length) (by omega)
      rw [len_of] at hfl hhl hp
      have hgb := fget_back x.data.toList y.data.toList d.data.toList t t0 t1 t2
      obtain ⟨F, hF⟩ : ∃ F, str (fput t d.data.toList) = F := ⟨_, rfl⟩
      have hFs : F.size ≤ 1015 := by rw [← hF, str_size]; omega
      have hFl : F.size = (fput t d.data.toList).length := by rw [← hF, str_size]
      have hSl : (x ++ F ++ y).data.toList = x.data.toList ++ fput t d.data.toList ++ y.data.toList := by rw [list_app, list_app, ← hF, str_list]
      rw [← hSl, len_of, ← hFl] at hgb
      have hSs : (x ++ F ++ y).size ≤ 3015 := by rw [ByteArray.size_append, ByteArray.size_append]; omega
      have HG := Lib.hid hgb
      have HF := Lib.hid hF
      clear hl hgb hSl hF hFl hfl hhl hp
      go_enter Try.func5, Try.ntmps5
      go_wp2_with fail
      refine (works_any _).mono ?_
      rintro e w1 ⟨rfl, hb1⟩
      have bP1 := bP.below hb1 bP.lt
      have hB1 := hB0.trans (hb1.mono hB0.size)
      obtain ⟨c0, c1⟩ := bP1.two
      clear hb1 hB0 bP
      go_wp2_with fail
      refine (Put_any t d (by omega) _).mono ?_
      intro e w2 hq
      obtain ⟨rfl, hb2⟩ := hq.to HL.out
      rw [HF.out]
      have bP2 := bP1.below hb2 bP1.lt
      have hB2 := hB1.trans (hb2.mono hB1.size)
      clear c0 c1 hb2 hB1 bP1 hq
      go_wp2_with fail
      refine (Get_any (x ++ F ++ y) x.size (by omega) _).mono ?_
      intro e w3 hq
      obtain ⟨rfl, hb3⟩ := hq.to HG.out
      rw [str_of]
      have bP3 := bP2.below hb3 bP2.lt
      have hB3 := hB2.trans (hb3.mono hB2.size)
      obtain ⟨c0, c1⟩ := bP3.two
      have hlt := bP3.lt
      have hne := Nat.ne_of_lt hlt
      have hne2 := Nat.ne_of_gt hlt
      clear hb3 hB2 bP2 hq
      go_wp2_with fail
      go_ret
      exact ⟨rfl, hB3.alloc hB3.size _⟩
  · have hcase : 1000 < d.size ∨ (d.size ≤ 1000 ∧ 1000 < x.size) ∨ (d.size ≤ 1000 ∧ x.size ≤ 1000 ∧ 1000 < y.size) := by omega
    clear hg
    rcases hcase with h1 | ⟨h1, h2⟩ | ⟨h1, h2, h3⟩
    all_goals
      go_enter Try.func5, Try.ntmps5
      go_wp2_with fail
      refine (works_any _).mono ?_
      rintro e w1 ⟨rfl, hb1⟩
      obtain ⟨c0, c1⟩ := (bP.below hb1 bP.lt).two
      go_wp2_with fail
      go_ret
      exact ⟨rfl, hB0.trans (hb1.mono hB0.size)⟩

set_option maxRecDepth 100000 in
set_option maxHeartbeats 1000000 in
theorem frameApart_walk (t : Int) (d : ByteArray) (u : Int) (f : ByteArray) (w : World) :
    Calls Try.prog 8 #[.agg #[.int .i64 t, .string d], .agg #[.int .i64 u, .string f]] w fun e w' => e = .returned (.bool true) ∧ Below w.heap.size w w' := by
  have bP := (Blk.new w 23 #[.int .i64 t, .string d]).alloc (.cells #[.int .i64 u, .string f] 23)
  have bQ := Blk.new (w.alloc (.cells #[.int .i64 t, .string d] 23)) 23 #[.int .i64 u, .string f]
  rw [World.size_alloc] at bQ
  have hB0 : Below w.heap.size w ((w.alloc (.cells #[.int .i64 t, .string d] 23)).alloc (.cells #[.int .i64 u, .string f] 23)) := ((Below.refl _ _).alloc (Nat.le_refl _) _).alloc (by simp) _
  by_cases hg : d.size ≤ 1000 ∧ f.size ≤ 1000
  · obtain ⟨hd, hf⟩ := hg
    obtain ⟨⟨l, c⟩, hl⟩ : ∃ r, fPut t d.data.toList = r := ⟨_, rfl⟩
    obtain ⟨⟨m, c'⟩, hm⟩ : ∃ r, fPut u f.data.toList = r := ⟨_, rfl⟩
    have HL := Lib.hid hl
    have HM := Lib.hid hm
    obtain ⟨F, hF⟩ : ∃ F, str l = F := ⟨_, rfl⟩
    obtain ⟨M, hM⟩ : ∃ M, str m = M := ⟨_, rfl⟩
    have HF := Lib.hid hF
    have HM2 := Lib.hid hM
    have hend : c = 0 → c' = 0 → F.size ≤ M.size → ((M.extract 0 F.size).toList == F.toList) = ((t == u) && (d.toList == f.toList)) := by
      intro hc hc' hle
      subst hc; subst hc'
      rcases fPut_cases t d.data.toList with ⟨c, hc, h⟩ | ⟨t0, t1, t2, h⟩
      · rw [hl] at h; injection h with _ h; exact absurd h.symm hc
      rcases fPut_cases u f.data.toList with ⟨c, hc, h'⟩ | ⟨u0, u1, u2, h'⟩
      · rw [hm] at h'; injection h' with _ h'; exact absurd h'.symm hc
      rw [hl] at h; injection h with h _
      rw [hm] at h'; injection h' with h' _
      rw [extract_str, ByteArray.toList_eq, ByteArray.toList_eq, ByteArray.toList_eq, ByteArray.toList_eq, str_list, ← hF, ← hM, str_list, str_list, str_size, List.drop_zero, Nat.sub_zero, h, h']
      rw [Bool.eq_iff_iff, Bool.and_eq_true, beq_iff_eq, beq_iff_eq, beq_iff_eq]
      constructor
      · intro q
        exact fput_apart t0 t1 t2 u0 u1 u2 q
      · rintro ⟨rfl, e⟩
        rw [e]
        exact List.take_length
    have HE := Lib.hid hend
    clear hl hm hF hM hend
    go_enter Try.func8, Try.ntmps8
    go_wp2_with fail
    refine (works_any _).mono ?_
    rintro e w1 ⟨rfl, hb1⟩
    have bP1 := bP.below hb1 bP.lt
    have bQ1 := bQ.below hb1 bQ.lt
    have hB1 := hB0.trans (hb1.mono hB0.size)
    obtain ⟨c0, c1⟩ := bP1.two
    obtain ⟨d0, d1⟩ := bQ1.two
    clear hb1 hB0 bP bQ
    go_wp2_with fail
    refine (Put_any t d (by omega) _).mono ?_
    intro e w2 hq
    obtain ⟨rfl, hb2⟩ := hq.to HL.out
    rw [HF.out]
    have bP2 := bP1.below hb2 bP1.lt
    have bQ2 := bQ1.below hb2 bQ1.lt
    have hB2 := hB1.trans (hb2.mono hB1.size)
    clear c0 c1 d0 d1 hb2 hB1 bP1 bQ1 hq
    obtain ⟨d0, d1⟩ := bQ2.two
    go_wp2_with fail
    refine (Put_any u f (by omega) _).mono ?_
    intro e w3 hq
    obtain ⟨rfl, hb3⟩ := hq.to HM.out
    rw [HM2.out]
    have bP3 := bP2.below hb3 bP2.lt
    have bQ3 := bQ2.below hb3 bQ2.lt
    have hB3 := hB2.trans (hb3.mono hB2.size)
    clear d0 d1 hb3 hB2 bP2 bQ2 hq
    obtain ⟨c0, c1⟩ := bP3.two
    obtain ⟨d0, d1⟩ := bQ3.two
    by_cases hc : c = 0
    · subst hc
      by_cases hc' : c' = 0
      · subst hc'
        by_cases hle : F.size ≤ M.size
        · have HE2 := Lib.hid (HE.out rfl rfl hle)
          have b1 : (F.size : Int) ≤ (M.size : Int) := by omega
          have b0 : (0 : Int) ≤ (F.size : Int) := by omega
          clear HE
          by_cases htu : t = u
          · subst htu
            by_cases hdf : d = f
            · subst hdf
              go_wp2_with fail
              go_quiet (fail)
              go_wp2_with fail
              go_ret
              exact ⟨ret_bool (HE2.out.trans (by simp)), belowN hB3 _⟩
            · have e2 : (d.toList == f.toList) = false := by
                rw [beq_eq_false_iff_ne]
                intro q
                rw [ByteArray.toList_eq, ByteArray.toList_eq] at q
                exact hdf (ByteArray.ext (Array.toList_inj.1 q))
              go_wp2_with fail
              go_quiet (fail)
              go_wp2_with fail
              have hq := HE2.out.trans (by rw [e2, Bool.and_false])
              go_ret
              exact ⟨ret_bool (by rw [hq]; rfl), belowN hB3 _⟩
          · have e2 : (t == u) = false := by simpa using htu
            clear htu
            go_wp2_with fail
            go_quiet (fail)
            go_wp2_with fail
            have hq := HE2.out.trans (by rw [e2, Bool.false_and])
            go_ret
            exact ⟨ret_bool (by rw [hq]; rfl), belowN hB3 _⟩
        · have hle2 : M.size < F.size := by omega
          go_wp2_with fail
          go_ret
          exact ⟨rfl, hB3⟩
      · have e0 : (c' == 0) = false := by simpa using hc'
        have e1 : (c' != 0) = true := by simpa using hc'
        clear hc'
        go_wp2_with fail
        go_ret
        exact ⟨rfl, hB3⟩
    · have e0 : (c == 0) = false := by simpa using hc
      have e1 : (c != 0) = true := by simpa using hc
      clear hc
      go_wp2_with fail
      go_ret
      exact ⟨rfl, hB3⟩
  · have hcase : 1000 < d.size ∨ (d.size ≤ 1000 ∧ 1000 < f.size) := by omega
    clear hg
    rcases hcase with h1 | ⟨h1, h2⟩
    all_goals
      go_enter Try.func8, Try.ntmps8
      go_wp2_with fail
      refine (works_any _).mono ?_
      rintro e w1 ⟨rfl, hb1⟩
      obtain ⟨c0, c1⟩ := (bP.below hb1 bP.lt).two
      obtain ⟨d0, d1⟩ := (bQ.below hb1 bQ.lt).two
      go_wp2_with fail
      go_ret
      exact ⟨rfl, hB0.trans (hb1.mono hB0.size)⟩

set_option maxRecDepth 100000 in
set_option maxHeartbeats 1000000 in
theorem frameBursts_walk (t : Int) (d : ByteArray) (x : ByteArray) (_hx : x.size ≤ maxLen) (y : ByteArray) (_hy : y.size ≤ maxLen) (a : Int) (_ha : (Lit.int .i64 a).wf = true) (b : Int) (hb : (Lit.int .u32 b).wf = true) (w : World) :
    Calls Try.prog 7 #[.agg #[.int .i64 t, .string d], .string x, .string y, .int .i64 a, .int .u32 b] w fun e w' => e = .returned (.bool true) ∧ Below w.heap.size w w' := by
  have bP := Blk.new w 23 #[.int .i64 t, .string d]
  have hB0 : Below w.heap.size w (w.alloc (.cells #[.int .i64 t, .string d] 23)) := (Below.refl _ _).alloc (Nat.le_refl _) _
  have hb0 : 0 ≤ b ∧ b < 4294967296 := by
    simp [Lit.wf, IntKind.min, IntKind.max, IntKind.signed, IntKind.bits] at hb
    omega
  obtain ⟨bits, rfl⟩ := Int.eq_ofNat_of_zero_le hb0.1
  by_cases hg : d.size ≤ 1000 ∧ x.size ≤ 1000 ∧ y.size ≤ 1000 ∧ 0 ≤ a ∧ a ≤ 16000
  · obtain ⟨hd, hx, hy, ha0, ha1⟩ := hg
    obtain ⟨at_, rfl⟩ := Int.eq_ofNat_of_zero_le ha0
    rcases fPut_cases t d.data.toList with ⟨c, hc, hl⟩ | ⟨t0, t1, t2, hl⟩
    · have HL := Lib.hid hl
      have e0 : (c == 0) = false := by simpa using hc
      have e1 : (c != 0) = true := by simpa using hc
      clear hl hc
      go_enter Try.func7, Try.ntmps7
      go_wp2_with fail
      refine (works_any _).mono ?_
      rintro e w1 ⟨rfl, hb1⟩
      have bP1 := bP.below hb1 bP.lt
      have hB1 := hB0.trans (hb1.mono hB0.size)
      obtain ⟨c0, c1⟩ := bP1.two
      clear hb1 hB0 bP
      go_wp2_with fail
      refine (Put_any t d (by omega) _).mono ?_
      intro e w2 hq
      obtain ⟨rfl, hb2⟩ := hq.to HL.out
      rw [show str [] = ⟨#[]⟩ from rfl]
      go_wp2_with fail
      go_ret
      exact ⟨rfl, hB1.trans (hb2.mono hB1.size)⟩
    · have HL := Lib.hid hl
      clear hl
      go_enter Try.func7, Try.ntmps7
      go_wp2_with fail
      refine (works_any _).mono ?_
      rintro e w1 ⟨rfl, hb1⟩
      have bP1 := bP.below hb1 bP.lt
      have hB1 := hB0.trans (hb1.mono hB0.size)
      obtain ⟨c0, c1⟩ := bP1.two
      clear hb1 hB0 bP
      go_wp2_with fail
      refine (Put_any t d (by omega) _).mono ?_
      intro e w2 hq
      obtain ⟨rfl, hb2⟩ := hq.to HL.out
      have bP2 := bP1.below hb2 bP1.lt
      have hB2 := hB1.trans (hb2.mono hB1.size)
      clear c0 c1 hb2 hB1 bP1 hq
      obtain ⟨c0, c1⟩ := bP2.two
      have hfl := fput_len t d.data.toList
      have hhl := head_len t d.data.toList
      have hp := lput_len10 (n := d.data.toList.length) (by omega)
      rw [len_of] at hfl hhl hp
      obtain ⟨F, hF⟩ : ∃ F, str (fput t d.data.toList) = F := ⟨_, rfl⟩
      obtain ⟨H, hH⟩ : ∃ H, str (head t d.data.toList) = H := ⟨_, rfl⟩
      have hFl : F.size = (fput t d.data.toList).length := by rw [← hF, str_size]
      have hHl : H.size = (head t d.data.toList).length := by rw [← hH, str_size]
      rw [hF]
      have HH := Lib.hid (show str (head t d.data.toList) = H from hH)
      have HF := Lib.hid hF
      have HHl := Lib.hid hHl
      have b1 : (H.size : Int) ≤ (F.size : Int) := by omega
      have b2 : H.size ≤ F.size := by omega
      have b3 : F.size ≤ 1015 := by omega
      have hfp : F.data.toList = head t d.data.toList ++ (d.data.toList ++ Crc.tail (head t d.data.toList ++ d.data.toList)) := by rw [← hF, str_list]; unfold fput; rw [List.append_assoc]
      have hZ : F.extract H.size F.size = str (d.data.toList ++ Crc.tail (head t d.data.toList ++ d.data.toList)) := by
        rw [extract_str, hfp, hHl, List.drop_left, List.take_of_length_le]
        rw [List.length_append, Crc.tail_len, len_of]
        omega
      have hX0 : F.extract 0 H.size = H := by rw [extract_str, hfp, List.drop_zero, Nat.sub_zero, hHl, List.take_left, hH]
      have hZs : (F.extract H.size F.size).size ≤ 1004 := by
        rw [hZ, str_size, List.length_append, Crc.tail_len, len_of]
        omega
      have HT := Lib.hid (fun W => Crc.Turn_any (F.extract H.size F.size) (by omega) at_ bits (by omega) (by omega) W)
      have HZ := Lib.hid hZ
      have HX0 := Lib.hid hX0
      have HFP := Lib.hid hfp
      have hHs : (F.extract 0 H.size).size ≤ 1015 := by rw [hX0]; omega
      clear hZ hX0 hfp
      clear hF hH hHl hFl hfl hhl hp
      go_wp2_with fail
      refine (Head_any t d (by omega) _).mono ?_
      rintro e w3 ⟨rfl, hb3⟩
      rw [HH.out]
      have bP3 := bP2.below hb3 bP2.lt
      have hB3 := hB2.trans (hb3.mono hB2.size)
      clear c0 c1 hb3 hB2 bP2
      have hBd := hB3.drew
      have bPd := bP3.drew
      go_wp2_with fail
      go_region_held3 (fun _ => True) (trivial) (first | (go_at_call 16; (with_reducible refine (HT.out _).mono ?_); rintro e w4 ⟨l, rfl, ht, hb4⟩; have bP4 := bPd.below hb4 bPd.lt; have hB4 := hBd.trans (hb4.mono hBd.size); have hls := ht.1; have HTu := Lib.hid ht; rw [len_of] at hls; have hq1 := fun W => run_string_add_sum (P := Try.prog) W (F.extract 0 H.size) (⟨l.toArray⟩ : ByteArray) (by rw [show (⟨l.toArray⟩ : ByteArray).size = l.length from str_size l]; omega)))
      clear hq1 ht hb4 bPd hBd hB3 bP3 HL
      have hls2 : l.length ≤ 1004 := by omega
      obtain ⟨T, hT⟩ : ∃ T, F.extract 0 H.size ++ (⟨l.toArray⟩ : ByteArray) = T := ⟨_, rfl⟩
      rw [hT]
      have hTl : T.data.toList = head t d.data.toList ++ l := by rw [← hT, list_app, HX0.out, ← HH.out, str_list]
      have hTs : T.size ≤ 2019 := by rw [← hT, ByteArray.size_append, show (⟨l.toArray⟩ : ByteArray).size = l.length from str_size l]; omega
      have hSs : (x ++ T ++ y).size ≤ 4019 := by rw [ByteArray.size_append, ByteArray.size_append]; omega
      clear hT hZs hHs hls HT
      by_cases hTF : T = F
      · subst hTF
        have hgb := fget_back x.data.toList y.data.toList d.data.toList t t0 t1 t2
        rw [show x.data.toList ++ fput t d.data.toList ++ y.data.toList = (x ++ T ++ y).data.toList by rw [list_app, list_app, ← HF.out, str_list], len_of] at hgb
        have HG := Lib.hid hgb
        clear hgb hTl HFP HF
        go_wp2_with fail
        refine (Get_any (x ++ T ++ y) x.size (by omega) _).mono ?_
        intro e w5 hq
        obtain ⟨rfl, hb5⟩ := hq.to HG.out
        rw [str_of]
        have bP5 := bP4.below hb5 bP4.lt
        have hB5 := hB4.trans (hb5.mono hB4.size)
        obtain ⟨c0, c1⟩ := bP5.two
        have hlt := bP5.lt
        have hne := Nat.ne_of_lt hlt
        have hne2 := Nat.ne_of_gt hlt
        clear hb5 hB4 bP4 hq
        go_wp2_with fail
        go_ret
        exact ⟨rfl, hB5.alloc hB5.size _⟩
      · have hne0 : l ≠ d.data.toList ++ Crc.tail (head t d.data.toList ++ d.data.toList) := by
          intro q
          apply hTF
          apply ByteArray.ext
          apply Array.toList_inj.1
          rw [hTl, HFP.out, q]
        have e2 : (T.toList == F.toList) = false := by
          rw [beq_eq_false_iff_ne]
          intro q
          rw [ByteArray.toList_eq, ByteArray.toList_eq] at q
          exact hTF (ByteArray.ext (Array.toList_inj.1 q))
        have hgb := fget_burst x.data.toList y.data.toList d.data.toList l t t0 t1 t2 at_ bits (by omega) (by have := HTu.out; rw [HZ.out, str_list] at this; exact this) hne0
        rw [show x.data.toList ++ (head t d.data.toList ++ l) ++ y.data.toList = (x ++ T ++ y).data.toList by rw [list_app, list_app, hTl], len_of] at hgb
        have HG := Lib.hid hgb
        clear hgb hTl hne0 hTF
        go_wp2_with fail
        refine (Get_any (x ++ T ++ y) x.size (by omega) _).mono ?_
        intro e w5 hq
        obtain ⟨rfl, hb5⟩ := hq.to HG.out
        rw [show str [] = ⟨#[]⟩ from rfl]
        have hB5 := hB4.trans (hb5.mono hB4.size)
        clear hb5 hB4 bP4 hq
        go_wp2_with fail
        go_ret
        exact ⟨rfl, hB5.alloc hB5.size _⟩
  · have hcase : 1000 < d.size ∨ (d.size ≤ 1000 ∧ 1000 < x.size) ∨ (d.size ≤ 1000 ∧ x.size ≤ 1000 ∧ 1000 < y.size) ∨ (d.size ≤ 1000 ∧ x.size ≤ 1000 ∧ y.size ≤ 1000 ∧ a < 0) ∨ (d.size ≤ 1000 ∧ x.size ≤ 1000 ∧ y.size ≤ 1000 ∧ 0 ≤ a ∧ 16000 < a) := by omega
    clear hg
    rcases hcase with h1 | ⟨h1, h2⟩ | ⟨h1, h2, h3⟩ | ⟨h1, h2, h3, h4⟩ | ⟨h1, h2, h3, h4, h5⟩
    all_goals
      go_enter Try.func7, Try.ntmps7
      go_wp2_with fail
      refine (works_any _).mono ?_
      rintro e w1 ⟨rfl, hb1⟩
      obtain ⟨c0, c1⟩ := (bP.below hb1 bP.lt).two
      go_wp2_with fail
      go_ret
      exact ⟨rfl, hB0.trans (hb1.mono hB0.size)⟩

end Go.Proofs.Ythimplhfmamejaa.Frame
