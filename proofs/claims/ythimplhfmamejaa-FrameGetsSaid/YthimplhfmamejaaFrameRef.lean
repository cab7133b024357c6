/-
  The document's own text for layer 6, walked.
-/
import Derived.Test.YthimplhfmamejaaFrameMath
import Derived.Test.YthimplhfmamejaaMem
import Derived.Test.YthimplhfmamejaaLebGet
import Derived.Test.YthimplhfmamejaaCrcTail
import Derived.Deep.RegionHeld3
import Derived.Deep.RegionWith
import Derived.Lib.Strings
namespace Go.Proofs.Ythimplhfmamejaa.Frame
open Go.RowKit Leb Mem

/-- A list of bytes as a string. -/
def str (l : List UInt8) : ByteArray := ⟨l.toArray⟩
theorem str_size (l : List UInt8) : (str l).size = l.length := by simp [str, ByteArray.size]
theorem str_list (l : List UInt8) : (str l).data.toList = l := by simp [str]
theorem str_of (s : ByteArray) : str s.data.toList = s := rfl
theorem str_app (l m : List UInt8) : str l ++ str m = str (l ++ m) := ByteArray.mk_append_mk ..
theorem len_of (s : ByteArray) : s.data.toList.length = s.size := by simp
theorem extract_str (s : ByteArray) (a b : Nat) : s.extract a b = str ((s.data.toList.drop a).take (b - a)) := by
  apply ByteArray.ext
  apply Array.ext'
  rw [Lib.extract_data]
  simp [str, List.take_drop]
theorem u64_size {n : Nat} (h : n ≤ 1073741824) : IntKind.u64.wrap (n : Int) = (n : Int) := by rw [IntKind.wrap_u64]; omega

set_option maxRecDepth 100000 in
set_option maxHeartbeats 1000000 in
theorem ref_Head_any (t : Int) (d : ByteArray) (hd : d.size ≤ 1073741824) (w : World) :
    Calls Try.prog 13 #[.agg #[.int .i64 t, .string d]] w fun e w' => e = .returned (.string (str (head t d.data.toList))) ∧ Below w.heap.size w w' := by
  have kc := conv_one (P := Try.prog) 42 5 Try.underlying42 Try.underlying5 (IntKind.u8.wrap t) 9 Try.underlying9
  have hu := u64_size hd
  have hp := lput_len10 (n := d.size) (by omega)
  have HP := Lib.hid (fun W => ref_put_any (d.size : Int) (by omega) (by omega) W)
  rw [Int.toNat_natCast] at HP
  have hz : (⟨(lput d.size).toArray⟩ : ByteArray).size ≤ 10 := by show (str (lput d.size)).size ≤ 10; rw [str_size]; exact hp
  have hq1 := fun W => run_string_add_sum (P := Try.prog) W (⟨#[UInt8.ofNat (IntKind.u8.wrap t).toNat]⟩ : ByteArray) (⟨(lput d.size).toArray⟩ : ByteArray) (by show 1 + _ ≤ _; omega)
  have HE := Lib.hid (show (⟨#[UInt8.ofNat (IntKind.u8.wrap t).toNat]⟩ : ByteArray) ++ ⟨(lput d.size).toArray⟩ = str (head t d.data.toList) by
    show str [b8 t] ++ str (lput d.size) = _
    rw [str_app]; unfold head; rw [len_of]; rfl)
  have hB0 : Below w.heap.size w (w.alloc (.cells #[.int .i64 t, .string d] 23)) := (Below.refl _ _).alloc (Nat.le_refl _) _
  go_enter Try.func13, Try.ntmps13
  go_wp2_with fail
  go_region_with (go_at_call 24; refine (HP.out _).mono ?_; rintro e w1 ⟨rfl, hb1⟩; obtain ⟨hc1, hf1⟩ := bcell hb1; have hz1 : w.heap.size ≤ w1.heap.size := by have := hb1.size; simp at this; omega)
  all_goals go_wp2
  all_goals go_ret
  all_goals refine ⟨by rw [← HE.out]; rfl, ?_⟩
  all_goals first
    | exact (hB0.alloc (by simp) _).drew.trans (hb1.mono (by simp; omega))
    | exact (hB0.drew.trans (hb1.mono (by simp))).alloc hz1 _
    | exact hB0.drew.trans (hb1.mono (by simp))

end Go.Proofs.Ythimplhfmamejaa.Frame
