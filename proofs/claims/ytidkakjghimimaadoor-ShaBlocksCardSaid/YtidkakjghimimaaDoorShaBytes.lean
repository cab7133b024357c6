/-
  A state's bytes, walked: by the program and by the reference.
-/
import Derived.Test.YtidkakjghimimaaDoorBytes
import Derived.Deep.AppendLies
import Derived.Deep.DrawnRows
import Derived.Deep.RegionLaw
import Derived.Deep.RegionWith
import Derived.RegionTactic
import Derived.BigRegion
import Derived.Test.YtidkakjghimimaaDoorShaBlock
namespace Go.Proofs.YtidkakjghimimaaDoor.Sha
open Go.RowKit

theorem four_cells (x : Nat) (hx : x < 4294967296) : Bytes.bcells (four x) = [.int .u8 ((x : Int) / 16777216), .int .u8 ((x : Int) / 65536 % 256), .int .u8 ((x : Int) / 256 % 256), .int .u8 ((x : Int) % 256)] := by
  have h : (x : Int) / 16777216 % 256 = (x : Int) / 16777216 := by omega
  simp [Bytes.bcells, Bytes.nums, four, h]

theorem bcells_append (a b : List UInt8) : Bytes.bcells (a ++ b) = Bytes.bcells a ++ Bytes.bcells b := by simp [Bytes.bcells, Bytes.nums]

/-- A row of bytes of the call's own. -/
def Owns (w : World) (base : Nat) (v : Value) (l : List UInt8) : Prop := w.ownsRow base 5 1 v l.length (Bytes.bcells l)
def PutEnds (base : Nat) (l : List UInt8) (w : World) (e : Ending) (w' : World) : Prop := ∃ v, e = .returned v ∧ Owns w' base v l ∧ Below base w w'

set_option maxRecDepth 100000 in
set_option maxHeartbeats 1000000 in
theorem put_any (base : Nat) (v : Value) (l : List UInt8) (hl : l.length ≤ 1073741824) (x : Nat) (hx : x < 4294967296) (w : World) (hb : base ≤ w.heap.size) (hown : Owns w base v l) :
    Calls Tryd.prog 28 #[v, .int .u32 (x : Int)] w (PutEnds base (l ++ four x) w) := by
  obtain ⟨i0, hi, hz0, hz1, hz2⟩ := info_parts Bytes.info_u8
  have HF := Lib.hid (four_cells x hx)
  unfold Owns at hown
  generalize hc : Bytes.bcells l = cs at hown
  have HC := Lib.hid hc
  clear hc
  go_enter Tryd.func28, Tryd.ntmps28
  go_wp2_with (at_builtin; refine wpList_append_own _ rfl _ _ 44 rfl base 5 i0 (.int .u8 0) 1 1 Tryd.underlying44 hi hz0 hz1 hz2 rfl (by decide) _ _ _ rfl (hown.alloc _) ⟨w.heap.size, 0, none⟩ 4 4 [.int .u8 ((x : Int) / 16777216), .int .u8 ((x : Int) / 65536 % 256), .int .u8 ((x : Int) / 256 % 256), .int .u8 ((x : Int) % 256)] rfl rfl (World.news_of_block (cs := #[.int .u8 ((x : Int) / 16777216), .int .u8 ((x : Int) / 65536 % 256), .int .u8 ((x : Int) / 256 % 256), .int .u8 ((x : Int) % 256)]) (t := 5) (fr := (0, 0)) (heap_alloc_new w _)) (by simp [Value.oneCell']) (by simp only [maxLen]; omega) (by omega) (by simp; omega) ?_; intro v' w1 hown' hgrow _)
  go_ret
  refine ⟨_, rfl, ?_, (((Below.refl base w).alloc hb _).grown hgrow (by simp; omega) (fun k e => (hown.lt k e).1))⟩
  unfold Owns
  rw [List.length_append, four_len, bcells_append, HC.out, HF.out]
  exact hown'

def z32 : Array Value := Array.replicate 32 (.int .u8 0)
theorem make32 (W : World) : (Instr.makeSlice 44 (.int .i64 0) (.int .i64 32)).run Tryd.prog W = .ok (.slice (some ⟨W.heap.size, 0, none⟩) 0 32) (W.alloc (.cells z32 5)) := by kernel_rfl

theorem take_word (l : List Nat) (n : Nat) (h : n < l.length) : l.take (n + 1) = l.take n ++ [l.getD n 0] := by
  rw [List.take_succ_eq_append_getElem h, List.getD_eq_getElem?_getD, List.getElem?_eq_getElem h]; rfl
theorem bytes_take (l : List Nat) (n : Nat) (h : n < l.length) : bytes (l.take (n + 1)) = bytes (l.take n) ++ four (l.getD n 0) := by
  rw [take_word l n h, bytes_append]; simp [bytes]

set_option maxRecDepth 100000 in
set_option maxHeartbeats 1000000 in
theorem Bytes_any (hs : List Nat) (hh : hs.length = 8) (hw : Words hs) (w : World) :
    Calls Tryd.prog 16 #[.agg (u32s hs)] w fun e w' => e = .returned (.string ⟨(bytes hs).toArray⟩) ∧ Below w.heap.size w w' := by
  have hmk := make32
  have HH := Lib.hid hh
  clear hh
  have HW := Lib.hid hw
  clear hw
  go_enter Tryd.func16, Tryd.ntmps16
  go_upto_region 2 with (fail)
  generalize hw1 : (w.alloc (Obj.cells (u32s hs) 29)).alloc (Obj.cells z32 5) = w1
  have hB1 : Below w.heap.size w w1 := by rw [← hw1]; exact ((Below.refl _ w).alloc (Nat.le_refl _) _).alloc (by simp) _
  have hR1 : Row w1 w.heap.size 29 (u32s hs) := by rw [← hw1]; exact (Row.new _ _ _).alloc _
  have hO : Owns w1 w.heap.size (.slice (some ⟨w.heap.size + 1, 0, none⟩) 0 32) [] := by
    rw [← hw1]
    have := World.ownsRow_made (base := w.heap.size) (e := 5) (size := 1) (w.alloc (Obj.cells (u32s hs) 29)) z32 32 (by simp) (by decide) rfl
    simpa [Owns, Bytes.bcells, Bytes.nums] using this
  clear hw1
  go_step
  go_step
  go_step
  go_step
  with_reducible refine wpList_loadRow (op := ⟨some 8, .load 26 (.tmp 7), _, _, _, none⟩) rfl 26 (.tmp 7) rfl w.heap.size ?_ hR1 Tryd.underlying26 rfl (by rw [size26, u32s_size, HH.out]) ?_
  · rfl
  go_simp
  go_wp2_with fail
  go_loopw [3, 9] (fun v i wr => ∃ n : Nat, n ≤ 8 ∧ i = .int .i64 n ∧ Below w.heap.size w wr ∧ Owns wr w.heap.size v (bytes (hs.take n))) (fun _ i _ => 8 - (intOf i).toNat)
  case atStart => exact ⟨0, by omega, rfl, hB1, by simpa [bytes] using hO⟩
  case round =>
    obtain ⟨n, hn, rfl, hB, hOw⟩ := hrel
    by_cases hlt : n < 8
    · have hd : decide ((n : Int) < 8) = true := by simp; omega
      have hix := fun W => index26 hs HH.out n hlt W
      have lw := HW.out.at n
      have HT := Lib.hid (bytes_take hs n (by rw [HH.out]; omega))
      have hlen : (bytes (hs.take n)).length ≤ 1073741824 := by rw [bytes_len, List.length_take, HH.out]; omega
      generalize bytes (hs.take n) = l at *
      generalize hs.getD n 0 = x at *
      go_wp2_with (go_at_call 28; (with_reducible refine (put_any w.heap.size _ l hlen x lw _ hB.size hOw).mono ?_); rintro e w2 ⟨v2, rfl, hO2, hB2⟩)
      go_roundw
      case rel => exact ⟨n + 1, by omega, by go_num, hB.trans hB2, by rw [HT.out]; exact hO2⟩
      case measure => simp [intOf]; omega
    · have hn9 : n = 8 := by omega
      subst hn9
      rw [List.take_of_length_le (by rw [HH.out]; omega)] at hOw
      have hcv := Bytes.conv_owned _ _ _ _ hOw
      go_wp2_with fail
      go_ret
      exact ⟨rfl, hB⟩

theorem conv_four (W : World) (g x : Nat) (hx : x < 4294967296) (hr : Row W g 5 #[.int .u8 ((x : Int) / 16777216), .int .u8 ((x : Int) / 65536 % 256), .int .u8 ((x : Int) / 256 % 256), .int .u8 ((x : Int) % 256)]) :
    (convert 44 9 (.slice (some ⟨g, 0, none⟩) 4 4)).run Tryd.prog W = .ok (.string ⟨(four x).toArray⟩) W := by
  rw [run_convert_bytes_arg W _ _ Tryd.underlying44 Tryd.underlying5 g 0 4 4 [(x : Int) / 16777216, (x : Int) / 65536 % 256, (x : Int) / 256 % 256, (x : Int) % 256] rfl ?_ _ Tryd.underlying9]
  · have h := Bytes.str_nums (four x)
    have e : Bytes.nums (four x) = [(x : Int) / 16777216, (x : Int) / 65536 % 256, (x : Int) / 256 % 256, (x : Int) % 256] := by
      have h : (x : Int) / 16777216 % 256 = (x : Int) / 16777216 := by omega
      simp [Bytes.nums, four, h]
    rw [← h, e]
  · intro i hi
    rw [Nat.zero_add, hr.cell]
    rcases (show i = 0 ∨ i = 1 ∨ i = 2 ∨ i = 3 by omega) with rfl | rfl | rfl | rfl <;> rfl

set_option maxRecDepth 100000 in
set_option maxHeartbeats 1000000 in
theorem ref_Bytes_any (hs : List Nat) (hh : hs.length = 8) (hw : Words hs) (w : World) :
    Calls Tryd.prog 17 #[.agg (u32s hs)] w fun e w' => e = .returned (.string ⟨(bytes hs).toArray⟩) ∧ Below w.heap.size w w' := by
  have HH := Lib.hid hh
  clear hh
  have HW := Lib.hid hw
  clear hw
  go_enter Tryd.func17, Tryd.ntmps17
  go_wp2_with fail
  go_loopw [3, 4] (fun v i wr => ∃ n : Nat, n ≤ 8 ∧ i = .int .i64 n ∧ Below w.heap.size w wr ∧ Row wr w.heap.size 26 (u32s hs) ∧ v = .string ⟨(bytes (hs.take n)).toArray⟩) (fun _ i _ => 8 - (intOf i).toNat)
  case atStart => exact ⟨0, by omega, rfl, (Below.refl _ w).alloc (Nat.le_refl _) _, Row.new _ _ _, rfl⟩
  case round =>
    obtain ⟨n, hn, rfl, hB, hR, hv⟩ := hrel
    by_cases hlt : n < 8
    · have hd : decide ((n : Int) < 8) = true := by simp; omega
      have lw := HW.out.at n
      have hlen : (bytes (hs.take n)).length ≤ 100 := by rw [bytes_len, List.length_take, HH.out]; omega
      have c1 := hR.word n (by rw [HH.out]; omega)
      have HT := Lib.hid (bytes_take hs n (by rw [HH.out]; omega))
      generalize bytes (hs.take n) = l at *
      generalize hs.getD n 0 = x at *
      have b8 : (n : Int) < 8 := by omega
      have n0 : (0 : Int) ≤ (n : Int) := by omega
      have hB9 := hB.size
      have hlt9 := hR.lt
      have t1 : (x : Int).tdiv 16777216 = (x : Int) / 16777216 := Int.tdiv_eq_ediv_of_nonneg (by omega)
      have t2 : (x : Int).tdiv 65536 = (x : Int) / 65536 := Int.tdiv_eq_ediv_of_nonneg (by omega)
      have t3 : (x : Int).tdiv 256 = (x : Int) / 256 := Int.tdiv_eq_ediv_of_nonneg (by omega)
      have m2 : ((x : Int) / 65536).tmod 256 = (x : Int) / 65536 % 256 := IntWalk.rem_in _ _ (by omega)
      have m3 : ((x : Int) / 256).tmod 256 = (x : Int) / 256 % 256 := IntWalk.rem_in _ _ (by omega)
      have m4 : (x : Int).tmod 256 = (x : Int) % 256 := IntWalk.rem_in _ _ (by omega)
      have v1 : IntKind.u32.wrap ((x : Int) / 16777216) = (x : Int) / 16777216 := IntWalk.u32_in _ (by omega)
      have v2 : IntKind.u32.wrap ((x : Int) / 65536) = (x : Int) / 65536 := IntWalk.u32_in _ (by omega)
      have v3 : IntKind.u32.wrap ((x : Int) / 256) = (x : Int) / 256 := IntWalk.u32_in _ (by omega)
      have w1 : IntKind.u8.wrap ((x : Int) / 16777216) = (x : Int) / 16777216 := IntWalk.u8_in _ (by omega)
      have w2 : IntKind.u8.wrap ((x : Int) / 65536 % 256) = (x : Int) / 65536 % 256 := IntWalk.u8_in _ (by omega)
      have w3 : IntKind.u8.wrap ((x : Int) / 256 % 256) = (x : Int) / 256 % 256 := IntWalk.u8_in _ (by omega)
      have w4 : IntKind.u8.wrap ((x : Int) % 256) = (x : Int) % 256 := IntWalk.u8_in _ (by omega)
      obtain ⟨S1, hS1⟩ : ∃ S : ByteArray, S = ⟨l.toArray⟩ := ⟨_, rfl⟩
      obtain ⟨S2, hS2⟩ : ∃ S : ByteArray, S = ⟨(four x).toArray⟩ := ⟨_, rfl⟩
      have hs1 : S1.size ≤ 100 := by rw [hS1]; simpa [ByteArray.size] using hlen
      have hs2 : S2.size ≤ 4 := by rw [hS2]; simp [ByteArray.size, four_len]
      have HJ : Hid (S1 ++ S2 = ⟨(l ++ four x).toArray⟩) := by
        rw [hS1, hS2]; apply ByteArray.ext; simp
      have hcv := conv_four ((wr.alloc (Obj.cells #[.int .u8 ((x : Int) / 16777216), .int .u8 ((x : Int) / 65536 % 256), .int .u8 ((x : Int) / 256 % 256), .int .u8 ((x : Int) % 256)] 5)).drew) wr.heap.size x lw (Row.new _ _ _)
      rw [← hS2] at hcv
      rw [← hS1] at hv
      subst hv
      clear hS1 hS2
      go_wp2_with fail
      have hgt : ¬ (9223372036854775807 < S1.size + S2.size) := by omega
      go_region
      go_wp2_with fail
      go_roundw
      case rel => exact ⟨n + 1, by omega, by go_num, (hB.alloc hB.size _).drew, (hR.alloc _).drew, by rw [HT.out, ← HJ.out]⟩
      case measure => simp [intOf]; omega
    · have hn9 : n = 8 := by omega
      subst hn9
      subst hv
      rw [List.take_of_length_le (by rw [HH.out]; omega)]
      go_wp2_with fail
      go_ret
      exact ⟨rfl, hB⟩

end Go.Proofs.YtidkakjghimimaaDoor.Sha
