/-
  Package frame, walked: a frame is read.
-/
import Derived.Test.YthimplhfmamejaaFramePkg
import Derived.Test.YthimplhfmamejaaWireReads
import Derived.Deep.DrawnRows
namespace Go.Proofs.Ythimplhfmamejaa.Frame
open Go.RowKit Leb Mem Wire

set_option maxRecDepth 100000 in
set_option maxHeartbeats 1000000 in
/-- The frame is read, whatever the reader tells. -/
theorem section_letters (a : Nat) (u v : ByteArray) (x n : Int) (d : ByteArray) (p1 p2 p3 p4 e1 e2 e3 e4 : Int) (hx0 : 0 ≤ x) (hx1 : x ≤ 255) (w : World) (ha : a < w.heap.size)
    (hB : ∀ W : World, W.heap[a]? = w.heap[a]? → Calls Try.prog 38 #[.pointer (some ⟨a, 0, none⟩)] W (fun e w' => e = .returned (.int .u8 x) ∧ Rd w' a u p1 e1 ∧ Kept (· = a) W w'))
    (hC : ∀ W : World, Rd W a u p1 e1 → Calls Try.prog 40 #[.pointer (some ⟨a, 0, none⟩), .int .i64 1048576] W (fun e w' => e = .returned (.int .i64 n) ∧ Rd w' a u p2 e2 ∧ Kept (· = a) W w'))
    (hR : ∀ W : World, Rd W a u p2 e2 → Calls Try.prog 39 #[.pointer (some ⟨a, 0, none⟩), .int .i64 n] W (fun e w' => e = .returned (.string d) ∧ Rd w' a u p3 e3 ∧ Kept (· = a) W w'))
    (hT : ∀ W : World, Rd W a u p3 e3 → Calls Try.prog 39 #[.pointer (some ⟨a, 0, none⟩), .int .i64 4] W (fun e w' => (∃ z, e = .returned z) ∧ Rd w' a u p4 e4 ∧ Kept (· = a) W w')) :
    Calls Try.prog 28 #[.agg #[.pointer (some ⟨a, 0, none⟩), .string v]] w fun e w' => e = .returned (.agg #[.int .i64 x, .string d]) ∧ Rd w' a u p4 e4 ∧ Kept (· = a) w w' := by
  have hwx : IntKind.i64.wrap x = x := IntWalk.i64_in _ (by omega)
  have HB := Lib.hid hB
  have HC := Lib.hid hC
  have HR := Lib.hid hR
  have HT := Lib.hid hT
  clear hB hC hR hT
  have hk0 : Kept (· = a) w (((w.alloc (.cells #[.pointer (some ⟨a, 0, none⟩), .string v] 47)).alloc (.cells #[.int .i64 0, .string ⟨#[]⟩] 23))) := ((Kept.refl _ w).alloc _).alloc _
  have b0 := (Blk.new w 47 #[.pointer (some ⟨a, 0, none⟩), .string v]).alloc (.cells #[.int .i64 0, .string ⟨#[]⟩] 23)
  have b1 := Blk.new (w.alloc (.cells #[.pointer (some ⟨a, 0, none⟩), .string v] 47)) 23 #[.int .i64 0, .string ⟨#[]⟩]
  simp only [World.size_alloc] at b1
  have hh : ((w.alloc (.cells #[.pointer (some ⟨a, 0, none⟩), .string v] 47)).alloc (.cells #[.int .i64 0, .string ⟨#[]⟩] 23)).heap[a]? = w.heap[a]? := by
    rw [Below.heap_alloc _ _ _ (by simp; omega), Below.heap_alloc _ _ _ ha]
  obtain ⟨c0, c1⟩ := b0.two
  have hne0 : w.heap.size ≠ a := by omega
  have hne1 : w.heap.size + 1 ≠ a := by omega
  go_enter Try.func28, Try.ntmps28
  go_wp2_with fail
  refine (HB.out _ hh).mono ?_
  rintro e w1 ⟨rfl, hR1, hk1⟩
  have d0 : Blk w1 w.heap.size 47 #[.pointer (some ⟨a, 0, none⟩), .string v] := b0.kept hk1 hne0
  have d1 : Blk w1 (w.heap.size + 1) 23 #[.int .i64 0, .string ⟨#[]⟩] := b1.kept hk1 hne1
  have hkk := hk0.trans hk1
  clear hk0 hk1 b0 b1 c0 c1 hh HB
  have b2 := Blk.new w1 23 #[.int .i64 x, .string ⟨#[]⟩]
  have hlt1 : w.heap.size + 1 < w1.heap.size := d1.lt
  have d0 := d0.alloc (.cells #[.int .i64 x, .string ⟨#[]⟩] 23)
  have d1 := d1.alloc (.cells #[.int .i64 x, .string ⟨#[]⟩] 23)
  have hR1 : Rd _ a u p1 e1 := Blk.alloc hR1 (.cells #[.int .i64 x, .string ⟨#[]⟩] 23)
  have hkk := hkk.alloc (.cells #[.int .i64 x, .string ⟨#[]⟩] 23)
  have hne2 : w1.heap.size ≠ a := by omega
  have hal : a < w1.heap.size := by omega
  go_wp2_with fail
  generalize w1.alloc (.cells #[.int .i64 x, .string ⟨#[]⟩] 23) = W at *
  generalize w1.heap.size = s1 at *
  obtain ⟨hc0, hc1⟩ := d0.two
  have hRd : Rd W.drew a u p1 e1 := hR1
  have hkd : Kept (· = a) w W.drew := hkk.drew
  have h20 : Blk W.drew w.heap.size 47 #[.pointer (some ⟨a, 0, none⟩), .string v] := d0
  have h21 : Blk W.drew (w.heap.size + 1) 23 #[.int .i64 0, .string ⟨#[]⟩] := d1
  have h22 : Blk W.drew s1 23 #[.int .i64 x, .string ⟨#[]⟩] := b2
  clear d0 d1 b2 hR1 hkk
  have hc0 : W.drew.cell? ⟨w.heap.size, 0, none⟩ = some (.pointer (some ⟨a, 0, none⟩)) := hc0
  clear hc1
  have hfz := h22.frozen
  have hcz := h22.two.2
  have hadr : (⟨w.heap.size, 0, none⟩ : Addr) ≠ ⟨s1, 1, none⟩ := by simp
  go_region_held3 (fun w' => w'.cell? ⟨w.heap.size, 0, none⟩ = some (.pointer (some ⟨a, 0, none⟩))) (first | exact hc0 | exact (World.cell?_setCell_other _ _ _ _ hadr.symm).trans hc0 | go_keep)
    (first
      | (go_at_call 40; (with_reducible refine (HC.out _ hRd).mono ?_); rintro e w2 ⟨rfl, hRd, hk2⟩; have hkd := hkd.trans hk2; have h20 := h20.kept hk2 hne0; have h21 := h21.kept hk2 hne1; have h22 := h22.kept hk2 hne2; have hc0 := h20.two.1; have hfz := h22.frozen; have hcz := h22.two.2)
      | (go_at_call 39; (with_reducible refine (HR.out _ hRd).mono ?_); rintro e w2 ⟨rfl, hRd, hk2⟩; have hkd := hkd.trans hk2; have h20 := h20.kept hk2 hne0; have h21 := h21.kept hk2 hne1; have h22 := h22.kept hk2 hne2; have hc0 := h20.two.1; have hfz := h22.frozen; have hcz := h22.two.2))
  clear hc0 hfz hcz HC HR
  have hkd := hkd.setCell (p := ⟨s1, 1, none⟩) (.inr (by show w.heap.size ≤ s1; omega)) (.string d)
  have h20 := h20.apart (p := ⟨s1, 1, none⟩) (by simp; omega) (.string d)
  have h21 := h21.apart (p := ⟨s1, 1, none⟩) (by simp; omega) (.string d)
  have h22 : Blk _ s1 23 #[.int .i64 x, .string d] := h22.set 1 (.string d)
  have hRd : Rd _ a u p3 e3 := Blk.apart hRd (p := ⟨s1, 1, none⟩) (Ne.symm hne2) (.string d)
  obtain ⟨c0, -⟩ := h20.two
  go_wp2_with fail
  refine (HT.out _ hRd).mono ?_
  rintro e w3 ⟨⟨z, rfl⟩, hRd, hk3⟩
  have hkd := hkd.trans hk3
  have h21 := h21.kept hk3 hne1
  have h22 := h22.kept hk3 hne2
  obtain ⟨y0, y1⟩ := h22.two
  obtain ⟨z0, z1⟩ := h21.two
  have zf := h21.frozen
  clear c0 h20 hk3 hk2
  go_wp2_with fail
  refine bodyPost_ret (v := .agg #[.int .i64 x, .string d]) (by simp [results, Try.results28, go_sem, z0, z1]) rfl ?_
  refine ⟨rfl, ?_, ?_⟩
  · exact Blk.apart (Blk.apart hRd (p := ⟨w.heap.size + 1, 0, none⟩) (by simp; omega) _) (p := ⟨w.heap.size + 1, 1, none⟩) (by simp; omega) _
  · exact (hkd.setCell (p := ⟨w.heap.size + 1, 0, none⟩) (.inr (by simp)) _).setCell (p := ⟨w.heap.size + 1, 1, none⟩) (.inr (by simp)) _

end Go.Proofs.Ythimplhfmamejaa.Frame
