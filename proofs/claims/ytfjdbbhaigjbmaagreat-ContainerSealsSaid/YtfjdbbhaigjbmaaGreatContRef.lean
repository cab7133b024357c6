/-
  The reference of containers, walked: a section's size, the foot, a number of four bytes.
-/
import Derived.Test.YtfjdbbhaigjbmaaGreatContFew
import Derived.Test.YtfjdbbhaigjbmaaGreatFrameG
import Derived.Deep.DrawnRows
namespace Go.Proofs.YtfjdbbhaigjbmaaGreat.Cont
open Go.RowKit Leb Mem _root_.Go.Proofs.YtfjdbbhaigjbmaaGreat.Frame

theorem size_eq (x : Sec) : size x = (head x.1 x.2).length + x.2.length + 4 := by unfold size; exact fput_len _ _
theorem size_le {x : Sec} (h : x.2.length ≤ 1073741824) : size x ≤ x.2.length + 15 := by
  rw [size_eq, head_len]; have := lput_len10 (n := x.2.length) (by omega); omega

set_option maxRecDepth 100000 in
set_option maxHeartbeats 1000000 in
theorem ref_size_any (t : Int) (d : ByteArray) (hd : d.size ≤ 1073741824) (w : World) :
    Calls Tryz.prog 18 #[.agg #[.int .i64 t, .string d]] w fun e w' => e = .returned (.int .i64 (size (t, d.data.toList))) ∧ Below w.heap.size w w' := by
  have HH := Lib.hid (fun W => ref_Head_any t d hd W)
  have hE := size_eq (t, d.data.toList)
  have hhl := head_len t d.data.toList
  have hpl := lput_len10 (n := d.data.toList.length) (by rw [len_of]; omega)
  obtain ⟨H, hH⟩ : ∃ H, head t d.data.toList = H := ⟨_, rfl⟩
  rw [hH] at HH hhl
  simp only at hE
  rw [hH, len_of] at hE
  have hHs : (str H).size = H.length := str_size H
  have hHl : H.length ≤ 11 := by omega
  obtain ⟨K, hK⟩ : ∃ K, str H = K := ⟨_, rfl⟩
  rw [hK] at HH hHs
  have hKs : K.size ≤ 11 := by omega
  have HE := Lib.hid (show (size (t, d.data.toList) : Int) = (K.size : Int) + d.size + 4 by rw [hE]; omega)
  have w1 : IntKind.i64.wrap ((K.size : Int) + (d.size : Int)) = (K.size : Int) + (d.size : Int) := IntWalk.i64_in _ (by omega)
  have w2 : IntKind.i64.wrap ((K.size : Int) + (d.size : Int) + 4) = (K.size : Int) + (d.size : Int) + 4 := IntWalk.i64_in _ (by omega)
  clear hE hhl hpl hH hHs hHl hK hKs
  have bP := Blk.new w 34 #[.int .i64 t, .string d]
  have hB0 : Below w.heap.size w (w.alloc (.cells #[.int .i64 t, .string d] 34)) := (Below.refl _ _).alloc (Nat.le_refl _) _
  go_enter Tryz.func18, Tryz.ntmps18
  go_wp2_with fail
  generalize w.alloc (.cells #[.int .i64 t, .string d] 34) = W at *
  obtain ⟨c0, c1⟩ := bP.two
  have hBd := hB0.drew
  have hl : w.heap.size < W.drew.heap.size := bP.lt
  have c0 : W.drew.cell? ⟨w.heap.size, 0, none⟩ = some (.int .i64 t) := c0
  have c1 : W.drew.cell? ⟨w.heap.size, 1, none⟩ = some (.string d) := c1
  go_region_held3 (fun w' => w'.cell? ⟨w.heap.size, 0, none⟩ = some (.int .i64 t) ∧ w'.cell? ⟨w.heap.size, 1, none⟩ = some (.string d)) (first | exact ⟨c0, c1⟩ | go_keep)
    (first | (go_at_call 38; (with_reducible refine (HH.out _).mono ?_); rintro e w1 ⟨rfl, hb1⟩; have c0 := (hb1.cell (p := ⟨w.heap.size, 0, none⟩) hl).trans c0; have c1 := (hb1.cell (p := ⟨w.heap.size, 1, none⟩) hl).trans c1; have hBd := hBd.trans (hb1.mono hBd.size)))
  go_wp2
  go_ret
  exact ⟨by rw [HE.out]; rfl, hBd⟩

theorem foot_four (n : Nat) : foot n = Crc.four n ++ theEnd := by
  unfold foot Crc.four
  rw [Nat.div_div_eq_div_mul, Nat.div_div_eq_div_mul]
theorem upto_step (n k : Nat) (hk : k < 4) : str (Crc.upto n k) ++ str [UInt8.ofNat (n / 256 ^ k % 256)] = str (Crc.upto n (k + 1)) := by
  rw [str_app, Crc.upto_more n k hk]

set_option maxRecDepth 100000 in
set_option maxHeartbeats 1000000 in
theorem ref_foot_any (n : Nat) (hn : n < 4294967296) (w : World) :
    Calls Tryz.prog 21 #[.int .i64 n] w fun e w' => e = .returned (.string (str (foot n))) ∧ Below w.heap.size w w' := by
  go_enter Tryz.func21, Tryz.ntmps21
  go_wp2
  go_loopw [0, 3, 4] (fun a s i wr => ∃ k : Nat, k ≤ 4 ∧ i = .int .i64 k ∧ a = .int .i64 ((n / 256 ^ k : Nat) : Int) ∧ s = .string (str (Crc.upto n k)) ∧ Below w.heap.size w wr) (fun _ _ i _ => 4 - (intOf i).toNat)
  case atStart => exact ⟨0, by omega, rfl, by simp, rfl, Below.refl _ _⟩
  case round =>
    obtain ⟨k, hk, rfl, rfl, rfl, hB⟩ := hrel
    have hsz : (str (Crc.upto n k)).size ≤ 4 := by rw [str_size, Crc.upto_len n k hk]; omega
    by_cases hlt : k < 4
    · have hd : decide ((k : Int) < 4) = true := by simp; omega
      have hdiv : n / 256 ^ (k + 1) = n / 256 ^ k / 256 := by rw [Nat.pow_succ, Nat.div_div_eq_div_mul]
      have hst := upto_step n k hlt
      have hle : n / 256 ^ k < 4294967296 := Nat.lt_of_le_of_lt (Nat.div_le_self _ _) hn
      have HD := Lib.hid hdiv
      generalize n / 256 ^ k = m at *
      obtain ⟨S, hS⟩ : ∃ S, str (Crc.upto n k) = S := ⟨_, rfl⟩
      rw [hS] at hst hsz ⊢
      obtain ⟨y, hy⟩ : ∃ y, y = m % 256 := ⟨_, rfl⟩
      rw [← hy] at hst
      have y1 : (m : Int) % 256 = (y : Int) := by omega
      have y2 : (y : Int) % 256 = (y : Int) := by omega
      have hy6 : y < 256 := by omega
      have hcv := conv_one (P := Tryz.prog) 60 5 Tryz.underlying60 Tryz.underlying5 (y : Int) 9 Tryz.underlying9 (wr.alloc (.cells #[.int .u8 (y : Int)] 5)) wr.heap.size (Blk.cell (Blk.new _ _ _) 0)
      obtain ⟨S3, hS3⟩ : ∃ S : ByteArray, S = ⟨#[UInt8.ofNat y]⟩ := ⟨_, rfl⟩
      rw [Int.toNat_natCast, ← hS3] at hcv
      rw [show str [UInt8.ofNat y] = S3 from hS3.symm] at hst
      have hz3 : S3.size ≤ 1 := by rw [hS3]; exact Nat.le_refl 1
      have HJ := Lib.hid hst
      clear hst hS3 hy hS hdiv hn
      go_wp2_with fail
      go_roundw
      case rel => exact ⟨k + 1, by omega, by go_num, by rw [HD.out]; simp, by rw [HJ.out], hB.alloc hB.size _⟩
      case measure => simp [intOf]; omega
    · have hk9 : k = 4 := by omega
      subst hk9
      have HC := Lib.hid (show str (Crc.upto n 4) ++ ⟨#[69, 78, 68, 46]⟩ = str (foot n) by
        rw [foot_four]; exact str_app _ theEnd)
      go_wp2_with fail
      go_ret
      exact ⟨by rw [← HC.out]; rfl, hB⟩

end Go.Proofs.YtfjdbbhaigjbmaaGreat.Cont
