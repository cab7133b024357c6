/-
  Package container, walked: what stands behind the frames.
-/
import Derived.Test.YtfjdbbhaigjbmaaGreatContPix
import Derived.Test.YtfjdbbhaigjbmaaGreatContSeal
import Derived.Test.YtfjdbbhaigjbmaaGreatCrcG
namespace Go.Proofs.YtfjdbbhaigjbmaaGreat.Cont
open Go.RowKit Leb Mem _root_.Go.Proofs.YtfjdbbhaigjbmaaGreat.Frame

theorem begin_any (A : Option Addr) (cap : Nat) (xs : List Sect) (w : World) (hx : Sects w w.heap.size A xs) (hl : Lim xs) :
    Calls Tryz.prog 35 #[.slice A xs.length cap] w fun e w' => e = .returned (.int .i64 ((7 + (body (secs xs)).length : Nat) : Int)) ∧ Below w.heap.size w w' :=
  callsIn_wide.1 (begin_in A cap xs w hx hl)
theorem index_any (A : Option Addr) (cap : Nat) (xs : List Sect) (w : World) (hx : Sects w w.heap.size A xs) (hl : Lim xs) :
    Calls Tryz.prog 9 #[.slice A xs.length cap] w fun e w' => e = .returned (.string (str (index (secs xs)))) ∧ Below w.heap.size w w' :=
  callsIn_wide.1 (index_in A cap xs w hx hl)

/-- What stands behind the frames. -/
def behind (l : List Sec) : List UInt8 := index l ++ Crc.tail (index l) ++ foot (7 + (body l).length)
theorem index_lim {xs : List Sect} (h : Lim xs) : (index (secs xs)).length ≤ 30000010 := by
  have := ixs_size h xs.length
  rw [List.take_length, str_size] at this
  have e : ixs xs.length (secs xs) = index (secs xs) := by unfold ixs index; rw [secs_len]
  rwa [e] at this
theorem behind_len (l : List Sec) : (behind l).length = (index l).length + 12 := by
  unfold behind; simp [Crc.tail_len, foot_len]

set_option maxRecDepth 100000 in
set_option maxHeartbeats 1000000 in
theorem ending_any (A : Option Addr) (cap : Nat) (xs : List Sect) (w : World) (hx : Sects w w.heap.size A xs) (hl : Lim xs) :
    Calls Tryz.prog 34 #[.slice A xs.length cap] w fun e w' => e = .returned (.string (str (behind (secs xs)))) ∧ Below w.heap.size w w' := by
  have hil := index_lim hl
  have hbl := body_lim hl xs.length
  rw [List.take_length] at hbl
  have HI := Lib.hid (index_any A cap xs w hx hl)
  have HBG := Lib.hid (fun W h => begin_any A cap xs W h hl)
  have HBH := Lib.hid (show index (secs xs) ++ Crc.tail (index (secs xs)) ++ Crc.four (7 + (body (secs xs)).length) ++ theEnd = behind (secs xs) by unfold behind; rw [foot_four]; simp only [List.append_assoc])
  have HX := Lib.hid hx
  have hn9 : 7 + (body (secs xs)).length ≤ 1000000000 := by have := hl.1; have := hl.2; omega
  generalize index (secs xs) = I at *
  generalize 7 + (body (secs xs)).length = n at *
  obtain ⟨S, hS⟩ : ∃ S, str I = S := ⟨_, rfl⟩
  have hSz : S.size = I.length := by rw [← hS, str_size]
  have hSl : S.data.toList = I := by rw [← hS, str_list]
  rw [hS] at HI
  have HT := Lib.hid (fun W => Crc.Tail_any S (by omega) W)
  rw [hSl] at HT
  change Hid (∀ W, Calls _ _ _ W fun e w' => e = .returned (.string (str (Crc.tail I))) ∧ Below W.heap.size W w') at HT
  have htl := Crc.tail_len I
  generalize Crc.tail I = T at *
  have HR1 := Lib.hid (fun (g : Nat) (W Y : World) (h : Wire.Wb g none W [] Y) => h.raw S (by simp; omega))
  have HR2 := Lib.hid (fun (g : Nat) (W Y : World) (h : Wire.Wb g none W I Y) => h.raw (str T) (by rw [str_size]; omega))
  have HR3 := Lib.hid (fun (g : Nat) (W Y : World) (h : Wire.Wb g none W (I ++ T ++ Crc.upto n 4) Y) => h.raw (str theEnd) (by rw [str_size, List.length_append, List.length_append, Crc.upto_len n 4 (by omega), theEnd_len]; omega))
  rw [List.nil_append, hSl] at HR1
  rw [str_list] at HR2 HR3
  rw [show Crc.upto n 4 = Crc.four n from List.take_of_length_le (by simp [Crc.four_len]), show str theEnd = ⟨#[69, 78, 68, 46]⟩ from rfl] at HR3
  have HBY := Lib.hid (fun (g : Nat) (W Y : World) (h : Wire.Wb g none W (I ++ T ++ Crc.four n ++ theEnd) Y) => h.bytes)
  clear hS hSz hSl hx hl hbl
  go_enter Tryz.func34, Tryz.ntmps34
  go_wp2_with (first
    | (go_at_call 9; with_reducible refine HI.out.mono ?_; rintro e w1 ⟨rfl, hb1⟩)
    | (go_at_call 22; refine (Wire.New_any _).mono ?_; rintro e w2 ⟨rfl, hW2, hb2⟩; have hWb2 := Wire.Wb.start hW2)
    | (go_at_call 47; with_reducible refine (HT.out _).mono ?_; rintro e w4 ⟨rfl, hb4⟩; have hWb4 := hWb3.below hb4)
    | (go_at_call 36; (with_reducible refine (HR1.out _ _ _ hWb2).mono ?_); rintro e w3 ⟨rfl, hWb3⟩)
    | (go_at_call 36; (with_reducible refine (HR2.out _ _ _ hWb4).mono ?_); rintro e w5 ⟨rfl, hWb5⟩; have hb5 : Below w1.heap.size w1 w5 := hb2.trans (hWb5.to_below hb2.size (Nat.le_refl _) (fun k e => by cases e)))
    | (go_at_call 35; with_reducible refine (HBG.out _ (Sects.at (Sects.at HX.out hb1) hb5)).mono ?_; rintro e w6 ⟨rfl, hb6⟩))
  have hWb6 := hWb5.below hb6
  have hB2 : Below w.heap.size w w2 := hb1.trans (hb2.mono hb1.size)
  have hs1 := hb1.size
  have hgs : w1.heap.size < w2.heap.size := hW2.lt
  clear HI HBG HT HR1 HR2 HX hW2 hb1 hWb2 hWb3 hb4 hWb4 hb5 hb6 hWb5
  have hw26 := hWb6.size
  go_loopw [17] (fun i wr => ∃ k : Nat, k ≤ 4 ∧ i = .int .i64 k ∧ Wire.Wb w1.heap.size none w2 (I ++ T ++ Crc.upto n k) wr) (fun i _ => 4 - (intOf i).toNat)
  case atStart => exact ⟨0, by omega, rfl, by simpa [Crc.upto] using hWb6⟩
  case round =>
    obtain ⟨k, hk, rfl, hWb⟩ := hrel
    by_cases hlt : k < 4
    · have hup := Crc.upto_more n k hlt
      have hul := Crc.upto_len n k (by omega)
      have hyl : n / 256 ^ k % 256 < 256 := Nat.mod_lt _ (by omega)
      have HW := Lib.hid (hWb.byte (UInt8.ofNat (n / 256 ^ k % 256)) (by rw [List.length_append, List.length_append]; omega))
      rw [List.append_assoc (I ++ T), ← hup] at HW
      have hw8 : IntKind.i64.wrap (8 * (k : Int)) = 8 * (k : Int) := IntWalk.i64_in _ (by omega)
      have hi0 : (0 : Int) ≤ 8 * (k : Int) := by omega
      have hi1 : (8 * (k : Int)).toNat = 8 * k := by omega
      have hv : (n : Int) / 2 ^ (8 * k) % 256 = ((UInt8.ofNat (n / 256 ^ k % 256)).toNat : Int) := by
        rw [show (2 : Int) ^ (8 * k) = ((256 ^ k : Nat) : Int) by rw [Int.pow_mul]; simp, UInt8.toNat_ofNat']
        omega
      have HV := Lib.hid hv
      clear hup hv
      go_wp2_with (go_at_call 48; rw [HV.out]; with_reducible refine HW.out.mono ?_; rintro e w7 ⟨rfl, hWb7⟩)
      go_roundw
      case rel => exact ⟨k + 1, by omega, by go_num, hWb7⟩
      case measure => simp [intOf]; omega
    · have hk9 : k = 4 := by omega
      subst hk9
      rw [show Crc.upto n 4 = Crc.four n from List.take_of_length_le (by simp [Crc.four_len])] at hWb
      go_wp2_with (first
        | (go_at_call 36; with_reducible refine (HR3.out _ _ _ hWb).mono ?_; rintro e w7 ⟨rfl, hWb7⟩)
        | (go_at_call 26; with_reducible refine (HBY.out _ _ _ hWb7).mono ?_; rintro e w8 ⟨rfl, rfl⟩))
      go_ret
      exact ⟨by rw [← HBH.out]; simp only [List.append_assoc]; rfl, hB2.trans (hWb7.to_below (B := w.heap.size) hB2.size hs1 (fun k e => by cases e))⟩

end Go.Proofs.YtfjdbbhaigjbmaaGreat.Cont
