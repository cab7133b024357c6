/-
  Package frame, walked: a frame is got.
-/
import Derived.Test.YthimplhfmamejaaFrameRead
namespace Go.Proofs.Ythimplhfmamejaa.Frame
open Go.RowKit Leb Mem Wire

theorem drop_str (s : ByteArray) (a : Nat) : (s.extract a s.size).data.toList = s.data.toList.drop a := by
  rw [extract_str, str_list, List.take_of_length_le (by rw [List.length_drop, len_of]; omega)]

/-- The first closure of Get: the place. -/
theorem get1_any (s : ByteArray) (a : Int) (b0 b1 : Nat) (w : World) (h0 : w.cell? ⟨b0, 0, none⟩ = some (.string s)) (h1 : w.cell? ⟨b1, 0, none⟩ = some (.int .i64 a)) :
    Calls Try.prog 25 #[.pointer (some ⟨b1, 0, none⟩), .pointer (some ⟨b0, 0, none⟩)] w fun e w' => e = .returned (.int .i64 (if 0 ≤ a ∧ a ≤ s.size then 0 else 1)) ∧ w' = w := by
  have HU := Lib.hid unless_any
  by_cases c0 : 0 ≤ a
  · by_cases c1 : a ≤ s.size
    · rw [if_pos ⟨c0, c1⟩]
      go_enter Try.func25, Try.ntmps25
      go_wp2_with (go_at_call 19; refine (HU.out _ _ _).mono ?_; rintro e w1 ⟨rfl, rfl⟩)
      go_ret
      exact ⟨rfl, rfl⟩
    · rw [if_neg (fun q => c1 q.2)]
      go_enter Try.func25, Try.ntmps25
      go_wp2_with (go_at_call 19; refine (HU.out _ _ _).mono ?_; rintro e w1 ⟨rfl, rfl⟩)
      go_ret
      exact ⟨rfl, rfl⟩
  · rw [if_neg (fun q => c0 q.1)]
    go_enter Try.func25, Try.ntmps25
    go_wp2_with (go_at_call 19; refine (HU.out _ _ _).mono ?_; rintro e w1 ⟨rfl, rfl⟩)
    go_ret
    exact ⟨rfl, rfl⟩

/-- What Get's variables hold, when the frame was read. -/
structure Got (s : ByteArray) (a : Nat) (b0 b1 f x : Nat) (r p er : Int) (R : Nat) (w : World) : Prop where
  str : Blk w b0 9 #[.string s]
  at_ : Blk w b1 3 #[.int .i64 a]
  fr : Blk w f 47 #[.pointer (some ⟨R, 0, none⟩), .string (s.extract a s.size)]
  se : Blk w x 23 #[.int .i64 (fsec (s.data.toList.drop a)).1.1, .string (Frame.str (fsec (s.data.toList.drop a)).1.2)]
  rd : Rd w R (s.extract a s.size) p er

set_option maxRecDepth 100000 in
set_option maxHeartbeats 1000000 in
theorem get2_any (s : ByteArray) (a : Nat) (hs : s.size ≤ 1073741824) (ha : a ≤ s.size) (b0 b1 f x : Nat) (v0 v1 x0 x1 : Value) (w : World)
    (h0 : Blk w b0 9 #[.string s]) (h1 : Blk w b1 3 #[.int .i64 a]) (hf : Blk w f 47 #[v0, v1]) (hx : Blk w x 23 #[x0, x1])
    (n0 : b0 ≠ f) (n1 : b1 ≠ f) (n2 : b0 ≠ x) (n3 : b1 ≠ x) (n4 : f ≠ x) :
    Calls Try.prog 26 #[.pointer (some ⟨b0, 0, none⟩), .pointer (some ⟨b1, 0, none⟩), .pointer (some ⟨f, 0, none⟩), .pointer (some ⟨x, 0, none⟩)] w fun e w' =>
      e = .returned (.int .i64 (fsec (s.data.toList.drop a)).2.2) ∧ (∃ R, w.heap.size ≤ R ∧ Got s a b0 b1 f x 0 (fsec (s.data.toList.drop a)).2.1 (fsec (s.data.toList.drop a)).2.2 R w') ∧ Kept (fun k => k = f ∨ k = x) w w' := by
  have i0 : (0 : Int) ≤ (a : Int) := by omega
  have i1 : (a : Int) ≤ (s.size : Int) := by omega
  obtain ⟨u, hu⟩ : ∃ u, s.extract a s.size = u := ⟨_, rfl⟩
  have hul : u.data.toList = s.data.toList.drop a := by rw [← hu]; exact drop_str s a
  have hus : u.size ≤ 1073741824 := by rw [← hu, ByteArray.size_extract]; omega
  obtain ⟨⟨⟨t, d⟩, p, er⟩, hfs⟩ : ∃ q, fsec (s.data.toList.drop a) = q := ⟨_, rfl⟩
  rw [hfs]
  have HFS := Lib.hid hfs
  clear hfs
  have HO := Lib.hid (fun W => Of_any u W)
  have hc0 : w.cell? ⟨b0, 0, none⟩ = some (.string s) := h0.cell 0
  have hc1 : w.cell? ⟨b1, 0, none⟩ = some (.int .i64 a) := h1.cell 0
  obtain ⟨y0, y1⟩ := hf.two
  have yf := hf.frozen
  go_enter Try.func26, Try.ntmps26
  go_wp2_with fail
  have hd0 : w.drew.cell? ⟨b0, 0, none⟩ = some (.string s) := hc0
  have hd1 : w.drew.cell? ⟨b1, 0, none⟩ = some (.int .i64 a) := hc1
  have l0 : b0 < w.drew.heap.size := h0.lt
  have l1 : b1 < w.drew.heap.size := h1.lt
  have hFd : Blk w.drew f 47 #[v0, v1] := hf
  have hXd : Blk w.drew x 23 #[x0, x1] := hx
  have h0d : Blk w.drew b0 9 #[.string s] := h0
  have h1d : Blk w.drew b1 3 #[.int .i64 a] := h1
  clear hc0 hc1 y0 y1 yf
  have a0 : ∀ j, (⟨f, j, none⟩ : Addr) ≠ ⟨b0, 0, none⟩ := fun j e => n0 (congrArg Addr.block e).symm
  have a1 : ∀ j, (⟨f, j, none⟩ : Addr) ≠ ⟨b1, 0, none⟩ := fun j e => n1 (congrArg Addr.block e).symm
  obtain ⟨y0, y1⟩ := hFd.two
  have yf := hFd.frozen
  go_region_held3 (fun w' => w'.cell? ⟨b0, 0, none⟩ = some (.string s) ∧ w'.cell? ⟨b1, 0, none⟩ = some (.int .i64 a)) (first | exact ⟨hd0, hd1⟩ | (exact ⟨by (repeat rw [World.cell?_setCell_other _ _ _ _ (a0 _)]); assumption, by (repeat rw [World.cell?_setCell_other _ _ _ _ (a1 _)]); assumption⟩) | go_keep)
    (first
      | (go_at_call 27; (with_reducible refine (HO.out _).mono ?_); rintro e w2 ⟨rfl, hRd, hb2⟩; have hd0 := (hb2.cell (p := ⟨b0, 0, none⟩) l0).trans hd0; have hd1 := (hb2.cell (p := ⟨b1, 0, none⟩) l1).trans hd1; have h0d := h0d.below hb2 l0; have h1d := h1d.below hb2 l1; have hXd := hXd.below hb2 hXd.lt; have hFd := hFd.below hb2 hFd.lt; have yf := hFd.frozen; obtain ⟨y0, y1⟩ := hFd.two))
  clear y0 y1 yf hd0 hd1 HO
  have hK1 : Kept (fun k => k = f ∨ k = x) w w2 := Kept.of_below (show Below w.heap.size w w2 from (Below.drew (Below.refl _ _)).trans hb2) (Nat.le_refl _)
  have hRl : w.heap.size ≠ f := fun e => by have := hf.lt; omega
  have hRx : w.heap.size ≠ x := fun e => by have := hx.lt; omega
  clear hb2
  have hK2 := (((hK1.setCell (p := ⟨f, 0, none⟩) (.inl (.inl rfl)) (.pointer none)).setCell (p := ⟨f, 1, none⟩) (.inl (.inl rfl)) (.string ⟨#[]⟩)).setCell (p := ⟨f, 0, none⟩) (.inl (.inl rfl)) (.pointer (some ⟨w.heap.size, 0, none⟩))).setCell (p := ⟨f, 1, none⟩) (.inl (.inl rfl)) (.string u)
  have hF2 : Blk _ f 47 #[.pointer (some ⟨w.heap.size, 0, none⟩), .string u] := (((hFd.set 0 (.pointer none)).set 1 (.string ⟨#[]⟩)).set 0 (.pointer (some ⟨w.heap.size, 0, none⟩))).set 1 (.string u)
  have h02 := (((h0d.apart (p := ⟨f, 0, none⟩) n0 (.pointer none)).apart (p := ⟨f, 1, none⟩) n0 (.string ⟨#[]⟩)).apart (p := ⟨f, 0, none⟩) n0 (.pointer (some ⟨w.heap.size, 0, none⟩))).apart (p := ⟨f, 1, none⟩) n0 (.string u)
  have h12 := (((h1d.apart (p := ⟨f, 0, none⟩) n1 (.pointer none)).apart (p := ⟨f, 1, none⟩) n1 (.string ⟨#[]⟩)).apart (p := ⟨f, 0, none⟩) n1 (.pointer (some ⟨w.heap.size, 0, none⟩))).apart (p := ⟨f, 1, none⟩) n1 (.string u)
  have hX2 := (((hXd.apart (p := ⟨f, 0, none⟩) (Ne.symm n4) (.pointer none)).apart (p := ⟨f, 1, none⟩) (Ne.symm n4) (.string ⟨#[]⟩)).apart (p := ⟨f, 0, none⟩) (Ne.symm n4) (.pointer (some ⟨w.heap.size, 0, none⟩))).apart (p := ⟨f, 1, none⟩) (Ne.symm n4) (.string u)
  have hR2 : Rd _ w.heap.size u 0 0 := (((Blk.apart hRd (p := ⟨f, 0, none⟩) hRl (.pointer none)).apart (p := ⟨f, 1, none⟩) hRl (.string ⟨#[]⟩)).apart (p := ⟨f, 0, none⟩) hRl (.pointer (some ⟨w.heap.size, 0, none⟩))).apart (p := ⟨f, 1, none⟩) hRl (.string u)
  clear hK1 hFd h0d h1d hXd hRd
  generalize (((w2.setCell ⟨f, 0, none⟩ (.pointer none)).setCell ⟨f, 1, none⟩ (.string ⟨#[]⟩)).setCell ⟨f, 0, none⟩ (.pointer (some ⟨w.heap.size, 0, none⟩))).setCell ⟨f, 1, none⟩ (.string u) = W at *
  obtain ⟨y0, y1⟩ := hF2.two
  obtain ⟨z0, z1⟩ := hX2.two
  have zf := hX2.frozen
  have HS := section_any (w := W) u hus hR2
  have hp := fsec_range u.data.toList
  have h5 := fsec_err u.data.toList
  rw [hul, HFS.out] at HS hp h5
  simp only at HS hp h5
  have hlen : (s.data.toList.drop a).length = u.size := by rw [← hul, len_of]
  rw [hlen] at hp
  obtain ⟨q, rfl⟩ := Int.eq_ofNat_of_zero_le hp.1
  have HS := Lib.hid HS
  have hq : q ≤ u.size := by omega
  clear hp hlen
  go_wp2_with fail
  refine HS.out.mono ?_
  rintro e w3 ⟨rfl, hR3, hk3⟩
  have hK3 : Kept (fun k => k = f ∨ k = x) w w3 := hK2.then hk3 (fun i hi => .inr (by rw [hi]; exact Nat.le_refl _))
  have hF3 := hF2.kept hk3 (Ne.symm hRl)
  have hX3 := hX2.kept hk3 (Ne.symm hRx)
  have h03 := h02.kept hk3 (fun e => by have := h0.lt; omega)
  have h13 := h12.kept hk3 (fun e => by have := h1.lt; omega)
  clear HS y0 y1 z0 z1 zf hK2 hF2 hX2 h02 h12 hR2 hk3
  obtain ⟨y0, y1⟩ := hF3.two
  obtain ⟨z0, z1⟩ := hX3.two
  have zf := hX3.frozen
  have hK4 := (hK3.setCell (p := ⟨x, 0, none⟩) (.inl (.inr rfl)) (.int .i64 t)).setCell (p := ⟨x, 1, none⟩) (.inl (.inr rfl)) (.string (str d))
  have hF4 := (hF3.apart (p := ⟨x, 0, none⟩) n4 (.int .i64 t)).apart (p := ⟨x, 1, none⟩) n4 (.string (str d))
  have h04 := (h03.apart (p := ⟨x, 0, none⟩) n2 (.int .i64 t)).apart (p := ⟨x, 1, none⟩) n2 (.string (str d))
  have h14 := (h13.apart (p := ⟨x, 0, none⟩) n3 (.int .i64 t)).apart (p := ⟨x, 1, none⟩) n3 (.string (str d))
  have hR4 : Rd _ w.heap.size u q er := (Blk.apart hR3 (p := ⟨x, 0, none⟩) hRx (.int .i64 t)).apart (p := ⟨x, 1, none⟩) hRx (.string (str d))
  have hX4 : Blk _ x 23 #[.int .i64 t, .string (str d)] := (hX3.set 0 (.int .i64 t)).set 1 (.string (str d))
  have HW := Lib.hid (wrong_any w.heap.size u u q er _ hus hq h5 hR4)
  obtain ⟨g0, g1⟩ := hF4.two
  clear hK3 hF3 h03 h13 hR3
  go_wp2_with fail
  refine HW.out.mono ?_
  rintro e w5 ⟨rfl, hb5⟩
  go_wp2
  go_ret
  refine ⟨rfl, ⟨w.heap.size, Nat.le_refl _, ⟨h04.below hb5 h04.lt, h14.below hb5 h14.lt, ?_, ?_, ?_⟩⟩, hK4.below hb5⟩
  · rw [hu]; exact hF4.below hb5 hF4.lt
  · rw [HFS.out]; exact hX4.below hb5 hX4.lt
  · rw [hu]; exact Blk.below hR4 hb5 (Blk.lt hR4)

end Go.Proofs.Ythimplhfmamejaa.Frame
