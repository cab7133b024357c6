/-
  Package frame, walked: a frame is put.
-/
import Derived.Test.YthimplhfmamejaaFrameRef2
import Derived.Test.YthimplhfmamejaaFrameFirst
import Derived.Laws.EntriesVeiled
namespace Go.Proofs.Ythimplhfmamejaa.Frame
open Go.RowKit Leb Mem

set_option maxRecDepth 100000 in
set_option maxHeartbeats 1000000 in
theorem Head_any (t : Int) (d : ByteArray) (hd : d.size ≤ 1073741824) (w : World) :
    Calls Try.prog 12 #[.agg #[.int .i64 t, .string d]] w fun e w' => e = .returned (.string (str (head t d.data.toList))) ∧ Below w.heap.size w w' := by
  have kc := conv_one (P := Try.prog) 42 5 Try.underlying42 Try.underlying5 (IntKind.u8.wrap t) 9 Try.underlying9
  have hu := u64_size hd
  have hp := lput_len10 (n := d.size) (by omega)
  have HP := Lib.hid (fun W => Leb.Put_any (d.size : Int) (by omega) (by omega) W)
  rw [Int.toNat_natCast] at HP
  have hz : (⟨(lput d.size).toArray⟩ : ByteArray).size ≤ 10 := by show (str (lput d.size)).size ≤ 10; rw [str_size]; exact hp
  have hq1 := fun W => run_string_add_sum (P := Try.prog) W (⟨#[UInt8.ofNat (IntKind.u8.wrap t).toNat]⟩ : ByteArray) (⟨(lput d.size).toArray⟩ : ByteArray) (by show 1 + _ ≤ _; omega)
  have HE := Lib.hid (show (⟨#[UInt8.ofNat (IntKind.u8.wrap t).toNat]⟩ : ByteArray) ++ ⟨(lput d.size).toArray⟩ = str (head t d.data.toList) by
    show str [b8 t] ++ str (lput d.size) = _
    rw [str_app]; unfold head; rw [len_of]; rfl)
  have hB0 : Below w.heap.size w (w.alloc (.cells #[.int .i64 t, .string d] 23)) := (Below.refl _ _).alloc (Nat.le_refl _) _
  go_enter Try.func12, Try.ntmps12
  go_wp2_with fail
  go_region_with (go_at_call 23; refine (HP.out _).mono ?_; rintro e w1 ⟨rfl, hb1⟩; obtain ⟨hc1, hf1⟩ := bcell hb1; have hz1 : w.heap.size ≤ w1.heap.size := by have := hb1.size; simp at this; omega)
  all_goals go_wp2
  all_goals go_ret
  all_goals refine ⟨by rw [← HE.out]; rfl, ?_⟩
  all_goals first
    | exact (hB0.alloc (by simp) _).drew.trans (hb1.mono (by simp; omega))
    | exact (hB0.drew.trans (hb1.mono (by simp))).alloc hz1 _
    | exact hB0.drew.trans (hb1.mono (by simp))

/-- The first closure of Put: the type. -/
theorem put1_any (t : Int) (d : ByteArray) (x : Nat) (w : World) (h : Blk w x 23 #[.int .i64 t, .string d]) :
    Calls Try.prog 18 #[.pointer (some ⟨x, 0, none⟩)] w fun e w' => e = .returned (.int .i64 (if 0 ≤ t ∧ t ≤ 255 then 0 else 1)) ∧ w' = w := by
  obtain ⟨h0, h1⟩ := h.two
  have HU := Lib.hid unless_any
  by_cases c0 : 0 ≤ t
  · by_cases c1 : t ≤ 255
    · rw [if_pos ⟨c0, c1⟩]
      go_enter Try.func18, Try.ntmps18
      go_wp2_with (go_at_call 19; refine (HU.out _ _ _).mono ?_; rintro e w1 ⟨rfl, rfl⟩)
      go_ret
      exact ⟨rfl, rfl⟩
    · rw [if_neg (fun q => c1 q.2)]
      go_enter Try.func18, Try.ntmps18
      go_wp2_with (go_at_call 19; refine (HU.out _ _ _).mono ?_; rintro e w1 ⟨rfl, rfl⟩)
      go_ret
      exact ⟨rfl, rfl⟩
  · rw [if_neg (fun q => c0 q.1)]
    go_enter Try.func18, Try.ntmps18
    go_wp2_with (go_at_call 19; refine (HU.out _ _ _).mono ?_; rintro e w1 ⟨rfl, rfl⟩)
    go_ret
    exact ⟨rfl, rfl⟩

/-- The second one: how many bytes. -/
theorem put2_any (t : Int) (d : ByteArray) (x : Nat) (w : World) (h : Blk w x 23 #[.int .i64 t, .string d]) :
    Calls Try.prog 20 #[.pointer (some ⟨x, 0, none⟩)] w fun e w' => e = .returned (.int .i64 (if d.size ≤ 1048576 then 0 else 4)) ∧ w' = w := by
  obtain ⟨h0, h1⟩ := h.two
  have HU := Lib.hid unless_any
  by_cases c0 : d.size ≤ 1048576
  · rw [if_pos c0]
    go_enter Try.func20, Try.ntmps20
    go_wp2_with (go_at_call 19; refine (HU.out _ _ _).mono ?_; rintro e w1 ⟨rfl, rfl⟩)
    go_ret
    exact ⟨rfl, rfl⟩
  · rw [if_neg c0]
    go_enter Try.func20, Try.ntmps20
    go_wp2_with (go_at_call 19; refine (HU.out _ _ _).mono ?_; rintro e w1 ⟨rfl, rfl⟩)
    go_ret
    exact ⟨rfl, rfl⟩

end Go.Proofs.Ythimplhfmamejaa.Frame
