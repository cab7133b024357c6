/-
  The document's own text for layer 6, walked: a frame is put, and got.
-/
import Derived.Test.YthimplhfmamejaaFrameRef
import Derived.RegionTactic
import Derived.BigQuiet
namespace Go.Proofs.Ythimplhfmamejaa.Frame
open Go.RowKit Leb Mem

/-- What putting comes to. -/
def PutEnds (t : Int) (d : ByteArray) (w : World) (e : Ending) (w' : World) : Prop :=
  e = .returned (.tuple #[.string (str (fPut t d.data.toList).1), .int .i64 (fPut t d.data.toList).2]) ∧ Below w.heap.size w w'
theorem PutEnds.mk {t : Int} {d s : ByteArray} {w w' : World} {l : List UInt8} {c : Int} (h : fPut t d.data.toList = (l, c)) (hs : s = str l) (hb : Below w.heap.size w w') : PutEnds t d w (.returned (.tuple #[.string s, .int .i64 c])) w' :=
  ⟨by rw [h, hs], hb⟩
theorem PutEnds.to {t : Int} {d : ByteArray} {w w' : World} {e : Ending} {l : List UInt8} {c : Int} (h : PutEnds t d w e w') (hl : fPut t d.data.toList = (l, c)) : e = .returned (.tuple #[.string (str l), .int .i64 c]) ∧ Below w.heap.size w w' := by
  obtain ⟨h1, h2⟩ := h
  rw [hl] at h1
  exact ⟨h1, h2⟩

set_option maxRecDepth 100000 in
set_option maxHeartbeats 1000000 in
theorem ref_Put_frame (t : Int) (d : ByteArray) (hd : d.size ≤ 1073741824) (w : World) :
    Calls Try.prog 11 #[.agg #[.int .i64 t, .string d]] w (PutEnds t d w) := by
  have hB0 : Below w.heap.size w (w.alloc (.cells #[.int .i64 t, .string d] 23)) := (Below.refl _ _).alloc (Nat.le_refl _) _
  by_cases h0 : t < 0
  · have HE := Lib.hid (show fPut t d.data.toList = ([], 1) by unfold fPut; rw [if_pos (.inl h0)])
    go_enter Try.func11, Try.ntmps11
    go_wp2_with fail
    go_ret2
    exact PutEnds.mk HE.out rfl hB0
  · by_cases h1 : 255 < t
    · have HE := Lib.hid (show fPut t d.data.toList = ([], 1) by unfold fPut; rw [if_pos (.inr h1)])
      go_enter Try.func11, Try.ntmps11
      go_wp2_with fail
      go_ret2
      exact PutEnds.mk HE.out rfl hB0
    · have h3 : t ≤ 255 := by omega
      have h4 : 0 ≤ t := by omega
      by_cases h2 : 1048576 < d.size
      · have HE := Lib.hid (show fPut t d.data.toList = ([], 4) by unfold fPut; rw [if_neg (by omega), if_pos (by rw [len_of]; exact h2)])
        go_enter Try.func11, Try.ntmps11
        go_wp2_with fail
        go_ret2
        exact PutEnds.mk HE.out rfl hB0
      · have HE := Lib.hid (show fPut t d.data.toList = (fput t d.data.toList, 0) by unfold fPut; rw [if_neg (by omega), if_neg (by rw [len_of]; exact h2)])
        have hp := lput_len10 (n := d.size) (by omega)
        have HH := Lib.hid (fun W => ref_Head_any t d hd W)
        obtain ⟨H, hH⟩ : ∃ H, head t d.data.toList = H := ⟨_, rfl⟩
        have hHl : H.length ≤ 11 := by rw [← hH, head_len, len_of]; omega
        rw [hH] at HH
        have hHs : (str H).size ≤ 11 := by rw [str_size]; exact hHl
        have hbs : (str (H ++ d.data.toList)).size ≤ 1048587 := by rw [str_size, List.length_append, len_of]; omega
        have HTl := Lib.hid (fun W => Crc.ref_Tail_any (str (H ++ d.data.toList)) (by omega) W)
        rw [str_list] at HTl
        obtain ⟨T, hT⟩ : ∃ T, Crc.tail (H ++ d.data.toList) = T := ⟨_, rfl⟩
        have hTl : (str T).size = 4 := by rw [str_size, ← hT]; rfl
        rw [hT] at HTl
        have HF := Lib.hid (show str (H ++ d.data.toList) ++ str T = str (fput t d.data.toList) by rw [str_app]; unfold fput; rw [hH, hT])
        have HS := Lib.hid (show str H ++ d = str (H ++ d.data.toList) by conv => lhs; rw [← str_of d, str_app])
        have hTz : (str T).size ≤ 4 := by omega
        clear hH hT hTl
        have hq1 := fun W => run_string_add_sum (P := Try.prog) W (str H) d (by omega)
        have hq2 := fun W => run_string_add_sum (P := Try.prog) W (str (H ++ d.data.toList)) (str T) (by omega)
        have bP := Blk.new w 23 #[.int .i64 t, .string d]
        go_enter Try.func11, Try.ntmps11
        go_wp2_with fail
        generalize w.alloc (.cells #[.int .i64 t, .string d] 23) = W at *
        obtain ⟨hc0, hc1⟩ := bP.two
        have hBd := hB0.drew
        have hwl := bP.lt
        have HWL := Lib.hid (show w.heap.size < W.drew.heap.size from hwl)
        go_region_held3 (fun w' => w'.cell? ⟨w.heap.size, 0, none⟩ = some (.int .i64 t) ∧ w'.cell? ⟨w.heap.size, 1, none⟩ = some (.string d)) (first | exact ⟨hc0, hc1⟩ | exact ⟨hk0, hk1⟩ | go_keep)
          (first | (go_at_call 13; (with_reducible refine (HH.out _).mono ?_); rintro e w1 ⟨rfl, hb1⟩; have hk0 := (hb1.cell (p := ⟨w.heap.size, 0, none⟩) HWL.out).trans hc0; have hk1 := (hb1.cell (p := ⟨w.heap.size, 1, none⟩) HWL.out).trans hc1; have hB1 := hBd.trans (hb1.mono hBd.size)))
        clear hc0 hc1 hk0 hk1 hq1
        rw [HS.out]
        go_wp2_with fail
        refine (HTl.out _).mono ?_
        rintro e w2 ⟨rfl, hb2⟩
        rw [show (⟨T.toArray⟩ : ByteArray) = str T from rfl]
        go_wp2_with fail
        go_ret2
        exact PutEnds.mk HE.out HF.out (hB1.trans (hb2.mono hB1.size))

end Go.Proofs.Ythimplhfmamejaa.Frame
