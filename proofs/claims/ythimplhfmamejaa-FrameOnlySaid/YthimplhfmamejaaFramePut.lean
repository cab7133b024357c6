/-
  Package frame, walked: a frame is put.
-/
import Derived.Test.YthimplhfmamejaaFramePkg
namespace Go.Proofs.Ythimplhfmamejaa.Frame
open Go.RowKit Leb Mem

/-- What the row of closures of Put comes to. -/
theorem put_first (t : Int) (d : ByteArray) (x g c : Nat) (w : World) (h : Blk w x 23 #[.int .i64 t, .string d])
    (hg : Blk w g 40 #[.func (.func 18) #[] #[.pointer (some ⟨x, 0, none⟩)], .func (.func 20) #[] #[.pointer (some ⟨x, 0, none⟩)]]) :
    Calls Try.prog 17 #[.slice (some ⟨g, 0, none⟩) 2 c] w fun e w' => e = .returned (.int .i64 (fPut t d.data.toList).2) ∧ w' = w := by
  have hx1 : fPut t d.data.toList = if 0 ≤ t ∧ t ≤ 255 then (if d.size ≤ 1048576 then (fput t d.data.toList, 0) else ([], 4)) else ([], 1) := by
    unfold fPut
    rw [len_of]
    by_cases q : 0 ≤ t ∧ t ≤ 255
    · rw [if_pos q, if_neg (by omega)]
      by_cases q2 : d.size ≤ 1048576
      · rw [if_pos q2, if_neg (by omega)]
      · rw [if_neg q2, if_pos (by omega)]
    · rw [if_neg q, if_pos (by omega)]
  refine (first_any [(18, #[.pointer (some ⟨x, 0, none⟩)]), (20, #[.pointer (some ⟨x, 0, none⟩)])] g c
    (fun i W => W = w ∧ (1 ≤ i → 0 ≤ t ∧ t ≤ 255) ∧ (2 ≤ i → d.size ≤ 1048576)) (fun er W => W = w ∧ (fPut t d.data.toList).2 = er) ?_ ?_ ?_ (by simp) w ⟨rfl, by omega, by omega⟩).mono ?_
  · rintro i f cs hf W ⟨rfl, -, -⟩
    rcases i with _ | _ | i
    · simp at hf; obtain ⟨rfl, rfl⟩ := hf; exact hg.cell 0
    · simp at hf; obtain ⟨rfl, rfl⟩ := hf; exact hg.cell 1
    · simp at hf
  · rintro i f cs hf W ⟨rfl, h1, h2⟩
    rcases i with _ | _ | i
    · simp at hf; obtain ⟨rfl, rfl⟩ := hf
      refine (put1_any t d x _ h).mono ?_
      rintro e w' ⟨rfl, rfl⟩
      refine ⟨_, rfl, ?_⟩
      by_cases q : 0 ≤ t ∧ t ≤ 255
      · rw [if_pos q]; exact .inl ⟨rfl, rfl, fun _ => q, by omega⟩
      · rw [if_neg q]; exact .inr ⟨by omega, rfl, by rw [hx1, if_neg q]⟩
    · simp at hf; obtain ⟨rfl, rfl⟩ := hf
      refine (put2_any t d x _ h).mono ?_
      rintro e w' ⟨rfl, rfl⟩
      refine ⟨_, rfl, ?_⟩
      have q1 := h1 (by omega)
      by_cases q : d.size ≤ 1048576
      · rw [if_pos q]; exact .inl ⟨rfl, rfl, fun _ => q1, fun _ => q⟩
      · rw [if_neg q]; exact .inr ⟨by omega, rfl, by rw [hx1, if_pos q1, if_neg q]⟩
    · simp at hf
  · intro i f cs hf W
    rcases i with _ | _ | i
    · simp at hf; obtain ⟨rfl, rfl⟩ := hf; rfl
    · simp at hf; obtain ⟨rfl, rfl⟩ := hf; rfl
    · simp at hf
  · rintro e w' ⟨er, rfl, (⟨rfl, rfl, h1, h2⟩ | ⟨-, rfl, h1⟩)⟩
    · exact ⟨by rw [hx1, if_pos (h1 (by simp)), if_pos (h2 (by simp))], rfl⟩
    · exact ⟨by rw [h1], rfl⟩

set_option maxRecDepth 100000 in
set_option maxHeartbeats 1000000 in
theorem Put_any (t : Int) (d : ByteArray) (hd : d.size ≤ 1073741824) (w : World) :
    Calls Try.prog 10 #[.agg #[.int .i64 t, .string d]] w (PutEnds t d w) := by
  have hB0 : Below w.heap.size w (w.alloc (.cells #[.int .i64 t, .string d] 23)) := (Below.refl _ _).alloc (Nat.le_refl _) _
  have bP := Blk.new w 23 #[.int .i64 t, .string d]
  have bG := Blk.new (w.alloc (.cells #[.int .i64 t, .string d] 23)) 40 #[.func (.func 18) #[] #[.pointer (some ⟨w.heap.size, 0, none⟩)], .func (.func 20) #[] #[.pointer (some ⟨w.heap.size, 0, none⟩)]]
  rw [World.size_alloc] at bG
  have bP1 := bP.alloc (.cells #[.func (.func 18) #[] #[.pointer (some ⟨w.heap.size, 0, none⟩)], .func (.func 20) #[] #[.pointer (some ⟨w.heap.size, 0, none⟩)]] 40)
  have hB1 := hB0.alloc (by simp) (.cells #[.func (.func 18) #[] #[.pointer (some ⟨w.heap.size, 0, none⟩)], .func (.func 20) #[] #[.pointer (some ⟨w.heap.size, 0, none⟩)]] 40)
  have HF1 := Lib.hid (put_first t d w.heap.size (w.heap.size + 1) 2 _ bP1 bG)
  by_cases hz : (fPut t d.data.toList).2 = 0
  · have HE : fPut t d.data.toList = (fput t d.data.toList, 0) ∧ d.size ≤ 1048576 := by
      unfold fPut at hz ⊢
      rw [len_of] at hz ⊢
      by_cases q : t < 0 ∨ 255 < t
      · rw [if_pos q] at hz; simp at hz
      · rw [if_neg q] at hz ⊢
        by_cases q2 : 1048576 < d.size
        · rw [if_pos q2] at hz; simp at hz
        · rw [if_neg q2]; exact ⟨rfl, by omega⟩
    obtain ⟨HE, h2⟩ := HE
    have HE := Lib.hid HE
    rw [hz] at HF1
    have hp := lput_len10 (n := d.size) (by omega)
    have HH := Lib.hid (fun W => Head_any t d hd W)
    obtain ⟨H, hH⟩ : ∃ H, head t d.data.toList = H := ⟨_, rfl⟩
    have hHl : H.length ≤ 11 := by rw [← hH, head_len, len_of]; omega
    rw [hH] at HH
    have hHs : (str H).size ≤ 11 := by rw [str_size]; exact hHl
    have hbs : (str (H ++ d.data.toList)).size ≤ 1048587 := by rw [str_size, List.length_append, len_of]; omega
    have HTl := Lib.hid (fun W => Crc.Tail_any (str (H ++ d.data.toList)) (by omega) W)
    rw [str_list] at HTl
    obtain ⟨T, hT⟩ : ∃ T, Crc.tail (H ++ d.data.toList) = T := ⟨_, rfl⟩
    have hTl : (str T).size = 4 := by rw [str_size, ← hT]; rfl
    rw [hT] at HTl
    have HF := Lib.hid (show str (H ++ d.data.toList) ++ str T = str (fput t d.data.toList) by rw [str_app]; unfold fput; rw [hH, hT])
    have HS := Lib.hid (show str H ++ d = str (H ++ d.data.toList) by conv => lhs; rw [← str_of d, str_app])
    have hTz : (str T).size ≤ 4 := by omega
    clear hH hT hTl hz
    have hq1 := fun W => run_string_add_sum (P := Try.prog) W (str H) d (by omega)
    have hq2 := fun W => run_string_add_sum (P := Try.prog) W (str (H ++ d.data.toList)) (str T) (by omega)
    go_enter Try.func10, Try.ntmps10
    go_wp2_with fail
    refine HF1.out.mono ?_
    rintro e w1 ⟨rfl, rfl⟩
    clear HF1 hB0 bP bG
    generalize (w.alloc (.cells #[.int .i64 t, .string d] 23)).alloc (.cells #[.func (.func 18) #[] #[.pointer (some ⟨w.heap.size, 0, none⟩)], .func (.func 20) #[] #[.pointer (some ⟨w.heap.size, 0, none⟩)]] 40) = W at *
    obtain ⟨hc0, hc1⟩ := bP1.two
    have hBd := hB1.drew
    have hwl := bP1.lt
    have HWL := Lib.hid (show w.heap.size < W.drew.heap.size from hwl)
    go_wp2_with fail
    go_region_held3 (fun w' => w'.cell? ⟨w.heap.size, 0, none⟩ = some (.int .i64 t) ∧ w'.cell? ⟨w.heap.size, 1, none⟩ = some (.string d)) (first | exact ⟨hc0, hc1⟩ | exact ⟨hk0, hk1⟩ | go_keep)
      (first | (go_at_call 12; (with_reducible refine (HH.out _).mono ?_); rintro e w1 ⟨rfl, hb1⟩; have hk0 := (hb1.cell (p := ⟨w.heap.size, 0, none⟩) HWL.out).trans hc0; have hk1 := (hb1.cell (p := ⟨w.heap.size, 1, none⟩) HWL.out).trans hc1; have hB1 := hBd.trans (hb1.mono hBd.size)))
    clear hc0 hc1 hk0 hk1 hq1
    rw [HS.out]
    go_wp2_with fail
    refine (HTl.out _).mono ?_
    rintro e w2 ⟨rfl, hb2⟩
    rw [show (⟨T.toArray⟩ : ByteArray) = str T from rfl]
    go_wp2_with fail
    go_ret2
    exact PutEnds.mk HE.out HF.out (hB1.trans (hb2.mono hB1.size))
  · obtain ⟨⟨r, er⟩, hr⟩ : ∃ q, fPut t d.data.toList = q := ⟨_, rfl⟩
    have hr0 : r = [] := by
      unfold fPut at hr hz
      by_cases q : t < 0 ∨ 255 < t
      · rw [if_pos q] at hr; exact (congrArg Prod.fst hr).symm
      · rw [if_neg q] at hr hz
        by_cases q2 : 1048576 < d.data.toList.length
        · rw [if_pos q2] at hr; exact (congrArg Prod.fst hr).symm
        · rw [if_neg q2] at hz; exact absurd rfl hz
    subst hr0
    rw [hr] at HF1 hz
    have e1 : (er != 0) = true := by simpa using hz
    have HE := Lib.hid hr
    clear hr hz
    go_enter Try.func10, Try.ntmps10
    go_wp2_with fail
    refine HF1.out.mono ?_
    rintro e w1 ⟨rfl, rfl⟩
    go_wp2_with fail
    go_ret2
    exact PutEnds.mk HE.out rfl hB1

end Go.Proofs.Ythimplhfmamejaa.Frame
