/-
  The document's example of tests works.
-/
import Derived.Test.YtlecofghifjmcaaSuitePkg
import Derived.Deep.RegionHeld3
import Derived.Deep.DrawnRows
set_option linter.unusedVariables false
namespace Go.Proofs.Ytlecofghifjmcaa.Suite
open Go.RowKit Leb Mem Wire Zig _root_.Go.Proofs.Ytlecofghifjmcaa.Arena _root_.Go.Proofs.Ytlecofghifjmcaa.Delta _root_.Go.Proofs.Ytlecofghifjmcaa.Path _root_.Go.Proofs.Ytlecofghifjmcaa.Cat _root_.Go.Proofs.Ytlecofghifjmcaa.Code
attribute [local go_sem ↓] Go.wp_at_zero Go.wp_at_succ

def exTs : List (List Int) := [[3, -1]]
theorem ex_right : SRight exTs 5 := ⟨by decide, by decide, by decide, by decide, by decide, by decide⟩
theorem ex_64 : T64 exTs := by
  intro t ht x hx
  simp only [exTs, List.mem_singleton] at ht
  subst ht
  simp only [List.mem_cons, List.not_mem_nil, or_false] at hx
  rcases hx with rfl | rfl <;> exact ⟨by decide, by decide⟩
theorem ex_put : sput exTs 5 = [5, 1, 2, 6, 1] := by
  show lput 5 ++ (lput 1 ++ (lput 2 ++ ((lput 6 ++ (lput 1 ++ [])) ++ []))) = _
  rw [lput_lo (n := 5) (by omega), lput_lo (n := 1) (by omega), lput_lo (n := 2) (by omega), lput_lo (n := 6) (by omega)]
  rfl
theorem ex_putE : sputE exTs 5 = [5, 1, 2, 6, 1] := by rw [show sputE exTs 5 = sput exTs 5 from if_pos (serr_zero.2 ex_right), ex_put]
theorem ex_fits : sfits ⟨#[5, 1, 2, 6, 1]⟩ ∧ (t4 ⟨#[5, 1, 2, 6, 1]⟩).1 = exTs ∧ (t1 ⟨#[5, 1, 2, 6, 1]⟩).2 = 5 := sfits_put ex_right ex_64 (by rw [ex_put])

set_option maxRecDepth 100000 in
set_option maxHeartbeats 4000000 in
theorem works_of (K : SuPkg) : Works := by
  intro w
  have b1 := (Blk.new w 3 #[.int .i64 3, .int .i64 (-1)]).alloc (.cells #[.slice (some ⟨w.heap.size, 0, none⟩) 2 2] 34)
  have b2 := Blk.new (w.alloc (.cells #[.int .i64 3, .int .i64 (-1)] 3)) 34 #[.slice (some ⟨w.heap.size, 0, none⟩) 2 2]
  rw [World.size_alloc] at b2
  have hB : Below w.heap.size w ((w.alloc (.cells #[.int .i64 3, .int .i64 (-1)] 3)).alloc (.cells #[.slice (some ⟨w.heap.size, 0, none⟩) 2 2] 34)) := ((Below.refl _ _).alloc (Nat.le_refl _) _).alloc (by simp) _
  obtain ⟨w2, hw2⟩ : ∃ w2, (w.alloc (.cells #[.int .i64 3, .int .i64 (-1)] 3)).alloc (.cells #[.slice (some ⟨w.heap.size, 0, none⟩) 2 2] 34) = w2 := ⟨_, rfl⟩
  rw [hw2] at b1 b2 hB
  have hT : TArg w2 (some ⟨w.heap.size + 1, 0, none⟩) 1 exTs := by
    refine ⟨fun i t hi => ?_, Nat.le_refl _, (fun e => by cases e), by decide, by decide⟩
    have h0 : i = 0 := by
      have := (List.getElem?_eq_some_iff.1 hi).1
      simp [exTs] at this
      exact this
    subst h0
    have ht : [3, -1] = t := by simpa [exTs] using hi
    subst ht
    exact ⟨_, some ⟨w.heap.size, 0, none⟩, 2, rfl, b2.lt, ⟨IRow.of_blk (ks := [3, -1]) b1 b1.lt, Nat.le_refl _, (fun e => by cases e)⟩, b2.cell 0⟩
  have HW2 := Lib.hid hw2
  have HB := Lib.hid hB
  have HT := Lib.hid hT
  have HP := Lib.hid (fun W (h : Below w2.heap.size w2 W) => K.put (some ⟨w.heap.size + 1, 0, none⟩) 1 exTs 5 W (hT.at h) ex_64 ⟨by decide, by decide⟩)
  rw [ex_putE, serr_zero.2 ex_right] at HP
  have HG := Lib.hid (fun W => (K.get ⟨#[5, 1, 2, 6, 1]⟩ W (by decide)).mono fun e w' q => q.yes ex_fits.1)
  rw [ex_fits.2.1, ex_fits.2.2] at HG
  have HN := Lib.hid (fun W => K.put none 0 [] 5 W (targ_nil W) (fun t h => by cases h) ⟨by decide, by decide⟩)
  have HS := Lib.hid (fun A c A' c' W (h : TArg W A c exTs) (h' : TArg W A' c' exTs) => ref_TSame_any A c exTs A' c' exTs W h.row h'.row h.n h.m)
  have HS2 := Lib.hid (fun A c A' c' W (h : TArg W A c exTs) (h' : TArg W A' c' exTs) => K.same A c exTs A' c' exTs W h h')
  have HS3 := Lib.hid (fun A c W (h : TArg W A c exTs) => K.same A c exTs none 0 [] W h (targ_nil W))
  rw [show decide (exTs = exTs) = true from decide_eq_true rfl] at HS HS2
  rw [show decide (exTs = []) = false from rfl] at HS3
  have HC1 := Lib.hid (fun A c W (h : TArg W A c exTs) => K.check 2 A c exTs 5 W h)
  have HC2 := Lib.hid (fun A c W (h : TArg W A c exTs) => K.check 1 A c exTs 0 W h)
  have HC3 := Lib.hid (fun A c W (h : TArg W A c exTs) => K.check 2 A c exTs 0 W h)
  rw [show scheck 2 exTs 5 = 0 from rfl] at HC1
  rw [show scheck 1 exTs 0 = 18 from rfl] at HC2
  rw [show scheck 2 exTs 0 = 19 from rfl] at HC3
  have e1 : serr [] 5 = 18 := rfl
  have e2 : sputE [] 5 = [] := rfl
  rw [e1, e2] at HN
  simp only [List.length_nil] at HN HS3
  have el : exTs.length = 1 := rfl
  rw [el] at HP HG HS HS2 HS3 HC1 HC2 HC3
  generalize exTs = ts at *
  clear b1 b2 hB hT hw2 e1 e2 el
  go_enter Try.func7, Try.ntmps7
  go_wp2_with (first
    | (go_at_call 13; rw [HW2.out]; first
        | ((with_reducible refine (HP.out _ (Below.refl _ _)).mono ?_); rintro e w3 ⟨rfl, hb3⟩))
    | (go_at_call 13; (with_reducible refine (HN.out _).mono ?_); rintro e w5 ⟨rfl, hb5⟩)
    | (go_at_call 15; refine (HG.out _).mono ?_; rintro e w4 ⟨hb4, A4, c4, rfl, hT4⟩)
    | (go_at_call 9; refine (HS.out _ _ _ _ _ (HT.out.at (hb3.trans ((hb4.trans (hb5.mono hb4.size)).mono hb3.size))) (hT4.at hb5)).mono ?_; rintro e w6 ⟨rfl, hb6⟩)
    | fail)
  have hB3 := hb3
  have hB4 := hB3.trans (hb4.mono hB3.size)
  have hB5 := hB4.trans (hb5.mono hB4.size)
  have hB6 := hB5.trans (hb6.mono hB5.size)
  have HB6 := Lib.hid hB6
  have HT4 := Lib.hid (hT4.at (hb5.trans (hb6.mono hb5.size)))
  have HT6 := Lib.hid (HT.out.at hB6)
  clear hb3 hb4 hb5 hb6 hB3 hB4 hB5 hB6 hT4
  have hwd := Below.refl w6.heap.size w6
  go_wp2_with (first
    | (go_at_call 10; first
        | ((with_reducible refine (HC1.out _ _ _ (HT6.out.at hwd)).mono ?_); rintro e w7 ⟨rfl, hb7⟩; have hb7 := hwd.trans hb7)
        | ((with_reducible refine (HC2.out _ _ _ (HT6.out.at hb7)).mono ?_); rintro e w8 ⟨rfl, hb8⟩; have hb8 := hb7.trans (hb8.mono hb7.size))
        | ((with_reducible refine (HC3.out _ _ _ (HT6.out.at hb8)).mono ?_); rintro e w9 ⟨rfl, hb9⟩; have hb9 := hb8.trans (hb9.mono hb8.size))
        | fail)
    | (go_at_call 12; first
        | ((with_reducible refine (HS2.out _ _ _ _ _ (HT6.out.at hb9) (HT4.out.at hb9)).mono ?_); rintro e w10 ⟨rfl, hb10⟩; have hb10 := hb9.trans (hb10.mono hb9.size))
        | ((with_reducible refine (HS3.out _ _ _ (HT6.out.at hb10)).mono ?_); rintro e w11 ⟨rfl, hb11⟩; have hb11 := hb10.trans (hb11.mono hb10.size))
        | fail)
    | fail)
  go_ret
  exact ⟨rfl, HB.out.trans ((HB6.out.trans (hb11.mono HB6.out.size)).mono HB.out.size)⟩

end Go.Proofs.Ytlecofghifjmcaa.Suite
