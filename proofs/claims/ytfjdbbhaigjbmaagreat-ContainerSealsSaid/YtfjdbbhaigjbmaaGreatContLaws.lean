/-
  The laws of layer 7, walked, on what the package's three functions come to.
-/
import Derived.Test.YtfjdbbhaigjbmaaGreatContSeal
import Derived.Test.YtfjdbbhaigjbmaaGreatContOpen
import Derived.Test.YtfjdbbhaigjbmaaGreatCrcG
namespace Go.Proofs.YtfjdbbhaigjbmaaGreat.Cont
open Go.RowKit Leb Mem _root_.Go.Proofs.YtfjdbbhaigjbmaaGreat.Frame

/-- What the package's functions come to. -/
structure Pkg : Prop where
  seals : ∀ (A : Option Addr) (cap : Nat) (xs : List Sect) (w : World), Sects w w.heap.size A xs → Lim xs → Calls Tryz.prog 7 #[.slice A xs.length cap] w (SealEnds (secs xs) w)
  index : ∀ (A : Option Addr) (cap : Nat) (xs : List Sect) (w : World), Sects w w.heap.size A xs → Lim xs → Calls Tryz.prog 9 #[.slice A xs.length cap] w fun e w' => e = .returned (.string (str (index (secs xs)))) ∧ Below w.heap.size w w'
  opens : ∀ (s : ByteArray) (w : World), s.size ≤ 1073741824 → Calls Tryz.prog 11 #[.string s] w (OpenEnds s.data.toList w)

theorem OpenEnds.to {l : List UInt8} {w w' : World} {e : Ending} {r : List Sec} {c : Int} (h : OpenEnds l w e w') (hl : openC l = (r, c)) :
    Below w.heap.size w w' ∧ ∃ (A : Option Addr) (cap : Nat) (ys : List Sect), secs ys = r ∧ e = .returned (.tuple #[.slice A ys.length cap, .int .i64 c]) ∧ Sects w' w'.heap.size A ys ∧ (A = Option.none → ys = []) := by
  obtain ⟨hb, A, cap, ys, h1, rfl, h3, h4⟩ := h
  rw [hl] at h1 ⊢
  exact ⟨hb, A, cap, ys, (congrArg Prod.fst h1).symm, rfl, h3, h4⟩

theorem sects_one {w : World} {g B : Nat} {t : Int} {d : ByteArray} (h : Blk w g 34 #[.int .i64 t, .string d]) (hB : g < B) (hd : d.size ≤ 140737488351232) : Sects w B (some ⟨g, 0, none⟩) [⟨t, d⟩] := by
  intro i x hx
  rcases i with _ | i
  · simp at hx; subst hx
    exact ⟨⟨g, 0, none⟩, rfl, hB, hd, h.two.1, h.two.2⟩
  · simp at hx

theorem ret_bool {p q : Bool} (h : p = q) : Ending.returned (.bool p) = .returned (.bool q) := by rw [h]

/-! ### The document's example -/
def Z0 : ByteArray := ⟨#[]⟩
theorem fput_1 : fput 1 [] = [1, 0, 190, 35, 194, 88] := by
  have l0 : lput 0 = [0] := by rw [lput_lo (by omega)]; rfl
  have h1 : head 1 [] = [1, 0] := by unfold head; rw [show ([] : List UInt8).length = 0 from rfl, l0]; rfl
  have ht : Crc.tail [1, 0] = [190, 35, 194, 88] := by decide +kernel
  unfold fput; rw [h1, List.append_nil, ht]; rfl
theorem lput_small {n : Nat} (h : n < 128) : lput n = [UInt8.ofNat n] := lput_lo h
theorem index_1 : index [(1, [])] = [1, 1, 7, 6] := by
  have hs : size (1, []) = 6 := by unfold size; rw [fput_1]; rfl
  unfold index idx idx
  rw [hs, show u64 (1, ([] : List UInt8)).1 = 1 from rfl, show [((1 : Int), ([] : List UInt8))].length = 1 from rfl, lput_small (by omega), lput_small (by omega), lput_small (by omega)]
  rfl
def S29 : List UInt8 := magic ++ [1, 0, 190, 35, 194, 88] ++ [1, 1, 7, 6] ++ Crc.tail [1, 1, 7, 6] ++ foot 13
theorem seal_1 : sealC [(1, [])] = (S29, 0) := by
  have hb : body [(1, [])] = [1, 0, 190, 35, 194, 88] := by unfold body body; rw [fput_1]; rfl
  unfold sealC
  rw [if_neg (by decide), hb, index_1, if_neg (by decide)]
  rfl
theorem S29_len : S29.length = 29 := by unfold S29; simp [magic_len, Crc.tail_len, foot_len]
theorem open_1 : openC S29 = ([(1, [])], 0) := open_seal seal_1
theorem seal_0 : sealC [] = ([], 20) := by unfold sealC; rw [if_pos (by decide)]
def M7 : ByteArray := ⟨#[77, 85, 84, 65, 82, 67, 1]⟩
theorem open_m7 : openC M7.data.toList = ([], 7) := open_magic (by decide) (.inl (by decide))

set_option maxRecDepth 100000 in
set_option maxHeartbeats 1000000 in
theorem works_any (C : Pkg) (w : World) : Calls Tryz.prog 5 #[] w fun e w' => e = .returned (.bool true) ∧ Below w.heap.size w w' := by
  have hs29 : (str S29).size = 29 := by rw [str_size, S29_len]
  have hs29' : ((str S29).size : Int) = 29 := by omega
  have bX := Blk.new w 34 #[.int .i64 1, .string ⟨#[]⟩]
  have hB0 : Below w.heap.size w (w.alloc (.cells #[.int .i64 1, .string ⟨#[]⟩] 34)) := (Below.refl _ _).alloc (Nat.le_refl _) _
  have hX : Sects _ _ (some ⟨w.heap.size, 0, none⟩) [⟨1, Z0⟩] := sects_one bX bX.lt (by decide)
  have hL : Lim [⟨1, Z0⟩] := ⟨by decide, by decide⟩
  have h1 := C.seals (some ⟨w.heap.size, 0, none⟩) 1 [⟨1, Z0⟩] _ hX hL
  rw [show secs [⟨1, Z0⟩] = [(1, [])] from rfl] at h1
  have H1 := Lib.hid (h1.mono (fun _ _ h => h.to seal_1))
  clear h1
  obtain ⟨S, hS⟩ : ∃ S, str S29 = S := ⟨_, rfl⟩
  have H2 := Lib.hid (fun W => (C.opens S W (by rw [← hS]; omega)).mono (fun _ _ h => OpenEnds.to (r := [(1, [])]) (c := 0) h (by rw [← hS, str_list]; exact open_1)))
  have H3 := Lib.hid (fun W => (C.seals none 0 [] W (fun i x hx => by simp at hx) ⟨by decide, by decide⟩).mono (fun _ _ h => h.to seal_0))
  have H4 := Lib.hid (fun W => (C.opens M7 W (by decide)).mono (fun _ _ h => h.to open_m7))
  rw [hS] at H1 hs29 hs29'
  clear hS
  have e29 : ((S.size : Int) == 29) = true := by rw [hs29']; rfl
  go_enter Tryz.func5, Tryz.ntmps5
  go_wp2_with fail
  refine H1.out.mono ?_
  rintro e w1 ⟨rfl, hb1⟩
  go_wp2_with fail
  refine (H2.out _).mono ?_
  rintro e w2 ⟨hb2, A, cap, ys, hys, rfl, hY, -⟩
  go_wp2_with fail
  refine (H3.out _).mono ?_
  rintro e w3 ⟨rfl, hb3⟩
  go_wp2_with fail
  refine (H4.out _).mono ?_
  rintro e w4 ⟨hb4, A', cap', zs, hzs, rfl, hZ, -⟩
  have hB4 := ((((hB0.trans (hb1.mono hB0.size)).trans (hb2.mono (Nat.le_trans hB0.size hb1.size))).trans (hb3.mono (Nat.le_trans (Nat.le_trans hB0.size hb1.size) hb2.size))).trans (hb4.mono (Nat.le_trans (Nat.le_trans (Nat.le_trans hB0.size hb1.size) hb2.size) hb3.size)))
  have hX4 := Sects.at (Sects.at (Sects.at (Sects.at hX hb1) hb2) hb3) hb4
  have hY4 := Sects.at (Sects.at hY hb3) hb4
  clear H1 H2 H3 H4 hX hY hb1 hb2 hb3 hb4 hB0 bX hZ
  go_wp2_with fail
  refine (Same_any _ 1 [⟨1, Z0⟩] A cap ys _ hX4 hY4 (by decide)).mono ?_
  rintro e w5 ⟨rfl, hb5⟩
  rw [show decide (secs [⟨1, Z0⟩] = secs ys) = true by rw [hys]; rfl]
  have h6 := C.index (some ⟨w.heap.size, 0, none⟩) 1 [⟨1, Z0⟩] _ (Sects.at hX4 hb5) hL
  rw [show secs [⟨1, Z0⟩] = [(1, [])] from rfl, index_1] at h6
  have H6 := Lib.hid h6
  have hB5 := hB4.trans (hb5.mono hB4.size)
  clear h6 hX4 hY4 hb5 hB4
  go_wp2_with (go_at_call 9; refine H6.out.mono ?_; rintro e w6 ⟨rfl, hb6⟩; rw [show str [1, 1, 7, 6] = ⟨#[1, 1, 7, 6]⟩ from rfl])
  go_ret
  exact ⟨rfl, hB5.trans (hb6.mono hB5.size)⟩

end Go.Proofs.YtfjdbbhaigjbmaaGreat.Cont
