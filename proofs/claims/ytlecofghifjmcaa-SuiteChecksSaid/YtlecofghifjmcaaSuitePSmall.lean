/-
  Package suite, walked: its small functions; a row of closures, asked one by one; may tests be.
-/
import Derived.Test.YtlecofghifjmcaaSuitePMath
import Derived.Test.YtlecofghifjmcaaCodeH
import Derived.Deep.RegionHeld3
import Derived.Deep.DrawnRows
import Derived.Deep.QuietTactic
set_option linter.unusedVariables false
namespace Go.Proofs.Ytlecofghifjmcaa.Suite
open Go.RowKit Mem _root_.Go.Proofs.Ytlecofghifjmcaa.Arena _root_.Go.Proofs.Ytlecofghifjmcaa.Delta _root_.Go.Proofs.Ytlecofghifjmcaa.Path _root_.Go.Proofs.Ytlecofghifjmcaa.Cat
attribute [local go_sem ↓] Go.wp_at_zero Go.wp_at_succ

set_option maxRecDepth 100000 in
theorem width_any (A : Option Addr) (c : Nat) (ts : List (List Int)) (w : World) (h : TRow w A ts) :
    Calls Try.prog 26 #[.slice A ts.length c] w fun e w' => e = .returned (.int .i64 (wid ts)) ∧ w' = w := by
  cases ts with
  | nil =>
    go_enter Try.func26, Try.ntmps26
    go_wp2
    go_ret
    exact ⟨rfl, rfl⟩
  | cons t r =>
    obtain ⟨ad, P, cp, rfl, -, -, k1⟩ := h 0 t rfl
    rw [add_0] at k1
    have e0 : (((t :: r).length : Int) == 0) = false := by rw [beq_eq_false_iff_ne]; simp only [List.length_cons]; omega
    have j0 : (0 : Int) < ((t :: r).length : Int) := by simp only [List.length_cons]; omega
    have hw : Hid ((wid (t :: r) : Int) = (t.length : Int)) := Lib.hid rfl
    generalize (wid (t :: r) : Int) = W at *
    generalize (t :: r).length = n at *
    go_enter Try.func26, Try.ntmps26
    go_wp2
    go_ret
    exact ⟨by rw [hw.out]; rfl, rfl⟩

set_option maxRecDepth 100000 in
set_option maxHeartbeats 1000000 in
/-- Closures in a row, asked one by one till one tells no. -/
theorem unless_any (er : Int) (fs : List (FuncId × Array Value)) (bs : List Bool) (hbs : bs.length = fs.length) (g c : Nat) (J : World → Prop)
    (hrow : ∀ (i : Nat) f cs, fs[i]? = some (f, cs) → ∀ w, J w → w.cell? ⟨g, i, none⟩ = some (.func (.func f) #[] cs))
    (hask : ∀ (i : Nat) f cs, fs[i]? = some (f, cs) → ∀ b, bs[i]? = some b → ∀ w, J w → Calls Try.prog f cs w fun e w' => e = .returned (.bool b) ∧ J w')
    (hent : ∀ (i : Nat) f cs, fs[i]? = some (f, cs) → ∀ w, (callFunc f cs).run Try.prog w = .ok (.enter f cs) w)
    (hn : fs.length < 1000) (w : World) (h0 : J w) :
    Calls Try.prog 19 #[.int .i64 er, .slice (some ⟨g, 0, none⟩) fs.length c] w fun e w' => e = .returned (.int .i64 (if bs.all id then 0 else er)) ∧ J w' := by
  obtain ⟨E, hE⟩ : ∃ E : Int, (if bs.all id then 0 else er) = E := ⟨_, rfl⟩
  rw [hE]
  have HX := Lib.hid hE
  clear hE
  go_enter Try.func19, Try.ntmps19
  go_wp2
  have HR := Lib.hid hrow
  have HK := Lib.hid hask
  have HE := Lib.hid hent
  have HBL := Lib.hid hbs
  clear hrow hask hent hbs
  go_loopw [9] (fun i wr => ∃ k : Nat, k ≤ fs.length ∧ i = .int .i64 k ∧ (bs.take k).all id = true ∧ J wr) (fun i _ => fs.length - (intOf i).toNat)
  case atStart => exact ⟨0, by omega, rfl, rfl, h0⟩
  case round =>
    obtain ⟨k, hk, rfl, hT, hJ⟩ := hrel
    by_cases hlt : k < fs.length
    · obtain ⟨⟨f, cs⟩, hf⟩ : ∃ x, fs[k]? = some x := ⟨_, List.getElem?_eq_getElem hlt⟩
      obtain ⟨b, hb⟩ : ∃ b, bs[k]? = some b := ⟨_, List.getElem?_eq_getElem (by rw [HBL.out]; exact hlt)⟩
      have hc := HR.out k f cs hf wr hJ
      have hcall := Lib.hid (HK.out k f cs hf b hb wr hJ)
      have hent := HE.out k f cs hf
      have j1 : (k : Int) < (fs.length : Int) := by omega
      have j2 : (0 : Int) ≤ (k : Int) := by omega
      clear hf
      cases b
      · have HF := Lib.hid (show E = er by
          have q : bs.all id = false := by
            rw [List.all_eq_false]
            exact ⟨false, List.mem_of_getElem? hb, by simp⟩
          rw [← HX.out, q]; rfl)
        clear hb hT
        go_wp2_with ((refine hcall.out.mono ?_); (rintro e w' ⟨rfl, hJ'⟩))
        go_ret
        exact ⟨by rw [HF.out]; rfl, hJ'⟩
      · have HT := Lib.hid (show (bs.take (k + 1)).all id = true by
          rw [take_one hb, List.all_append, hT]; rfl)
        clear hb hT
        go_wp2_with ((refine hcall.out.mono ?_); (rintro e w' ⟨rfl, hJ'⟩))
        go_roundw
        case rel => exact ⟨k + 1, by omega, by go_num, HT.out, hJ'⟩
        case measure => simp [intOf]; omega
    · have hkk : k = fs.length := by omega
      have HT := Lib.hid (show E = 0 by
        have q : bs.all id = true := by rw [← List.take_length (l := bs), HBL.out, ← hkk]; exact hT
        rw [← HX.out, q]; rfl)
      have hlt' : decide ((k : Int) < (fs.length : Int)) = false := decide_eq_false (by omega)
      clear hT
      go_wp2
      go_ret
      exact ⟨by rw [HT.out]; rfl, hJ⟩

/-- The first number that is not 0. -/
def orr : List Int → Int
  | [] => 0
  | x :: l => if x = 0 then orr l else x
theorem orr_go {l : List Int} {k : Nat} (h : l[k]? = some 0) : orr (l.drop (k + 1)) = orr (l.drop k) := by
  obtain ⟨hk, e⟩ := List.getElem?_eq_some_iff.1 h
  rw [List.drop_eq_getElem_cons hk, e, orr, if_pos rfl]
theorem orr_end {l : List Int} {k : Nat} {x : Int} (h : l[k]? = some x) (hx : x ≠ 0) : orr (l.drop k) = x := by
  obtain ⟨hk, e⟩ := List.getElem?_eq_some_iff.1 h
  rw [List.drop_eq_getElem_cons hk, e, orr, if_neg hx]
set_option maxRecDepth 100000 in
set_option maxHeartbeats 1000000 in
theorem ErrOr_any (A : Option Addr) (cap : Nat) (l : List Int) (w : World) (hx : IRow w w.heap.size A l) (hl : l.length ≤ 1000000) :
    Calls Try.prog 18 #[.slice A l.length cap] w fun e w' => e = .returned (.int .i64 (orr l)) ∧ w' = w := by
  have HX := Lib.hid hx
  clear hx
  go_enter Try.func18, Try.ntmps18
  go_wp2
  go_loopw [8] (fun i wr => ∃ k : Nat, k ≤ l.length ∧ i = .int .i64 k ∧ orr (l.drop k) = orr l ∧ wr = w) (fun i _ => l.length - (intOf i).toNat)
  case atStart => exact ⟨0, by omega, rfl, rfl, rfl⟩
  case round =>
    obtain ⟨k, hk, rfl, hb0, rfl⟩ := hrel
    by_cases hlt : k < l.length
    · obtain ⟨x, hxk⟩ : ∃ x, l[k]? = some x := ⟨_, List.getElem?_eq_getElem hlt⟩
      obtain ⟨ad, rfl, hbk, h0'⟩ := HX.out k x hxk
      have j1 : (k : Int) < (l.length : Int) := by omega
      have j2 : (0 : Int) ≤ (k : Int) := by omega
      by_cases h0 : x = 0
      · subst h0
        have HS := Lib.hid ((orr_go hxk).trans hb0)
        have e1 : ((0 : Int) != 0) = false := rfl
        clear hb0 hxk
        go_wp2
        go_roundw
        case rel => exact ⟨k + 1, by omega, by go_num, HS.out, by first | rfl | trivial⟩
        case measure => simp [intOf]; omega
      · have HS := Lib.hid (hb0.symm.trans (orr_end hxk h0))
        have e1 : (x != 0) = true := by simpa using h0
        clear hb0 hxk h0
        go_wp2
        go_ret
        exact ⟨by rw [HS.out]; rfl, rfl⟩
    · have hk9 : k = l.length := by omega
      subst hk9
      rw [List.drop_length] at hb0
      have HB0 := Lib.hid hb0.symm
      have j1 : ¬ (l.length : Int) < (l.length : Int) := by omega
      clear hb0
      go_wp2
      go_ret
      exact ⟨by rw [HB0.out]; rfl, rfl⟩
theorem row2 (w : World) (x y : Int) : IRow (w.alloc (.cells #[.int .i64 x, .int .i64 y] 26)) (w.alloc (.cells #[.int .i64 x, .int .i64 y] 26)).heap.size (some ⟨w.heap.size, 0, none⟩) [x, y] := by
  have b := Blk.new w 26 #[.int .i64 x, .int .i64 y]
  intro i v hv
  refine ⟨_, rfl, b.lt, ?_⟩
  match i, hv with
  | 0, hv => cases hv; exact b.cell 0
  | 1, hv => cases hv; exact b.cell 1
theorem or2_any (x y : Int) (W : World) : Calls Try.prog 18 #[.slice (some ⟨W.heap.size, 0, none⟩) 2 2] (W.alloc (.cells #[.int .i64 x, .int .i64 y] 26)) fun e w' => e = .returned (.int .i64 (orr [x, y])) ∧ w' = W.alloc (.cells #[.int .i64 x, .int .i64 y] 26) :=
  ErrOr_any (some ⟨W.heap.size, 0, none⟩) 2 [x, y] _ (row2 W x y) (by simp)

set_option maxRecDepth 100000 in
theorem wide1_any (P : Option Addr) (m pc b : Nat) (n : Int) (w : World) (hc : w.cell? ⟨b, 0, none⟩ = some (.int .i64 n)) :
    Calls Try.prog 42 #[.slice P m pc, .pointer (some ⟨b, 0, none⟩)] w fun e w' => e = .returned (.bool ((m : Int) != n)) ∧ w' = w := by
  go_enter Try.func42, Try.ntmps42
  go_wp2
  go_ret
  exact ⟨rfl, rfl⟩
set_option maxRecDepth 100000 in
set_option maxHeartbeats 1000000 in
theorem idxT_any (A : Option Addr) (c : Nat) (ts : List (List Int)) (n : Int) (b : Nat) (w : World) (h : TRow w A ts) (hc : w.cell? ⟨b, 0, none⟩ = some (.int .i64 n)) (hl : ts.length ≤ 1000000) :
    Calls Try.prog 52 #[.slice A ts.length c, .func (.func 42) #[] #[.pointer (some ⟨b, 0, none⟩)]] w fun e w' => (∃ r : Int, e = .returned (.int .i64 r) ∧ decide (0 ≤ r) = !evenB n ts) ∧ w' = w := by
  have HL := Lib.hid h
  have HS := Lib.hid (fun P m pc => wide1_any P m pc b n w hc)
  clear h hc
  go_enter Try.func52, Try.ntmps52
  go_wp2
  go_loopw [8] (fun i wr => ∃ k : Nat, k ≤ ts.length ∧ i = .int .i64 k ∧ (∀ m ∈ ts.take k, (m.length : Int) = n) ∧ wr = w) (fun i _ => ts.length - (intOf i).toNat)
  case atStart => exact ⟨0, by omega, rfl, by simp, rfl⟩
  case round =>
    obtain ⟨k, hk, rfl, ht, rfl⟩ := hrel
    by_cases hlt : k < ts.length
    · obtain ⟨m, hm⟩ : ∃ m, ts[k]? = some m := ⟨_, List.getElem?_eq_getElem hlt⟩
      obtain ⟨ad, P, cp, rfl, -, -, k1⟩ := HL.out k m hm
      have j1 : (k : Int) < (ts.length : Int) := by omega
      have j2 : (0 : Int) ≤ (k : Int) := by omega
      have hs := HS.out P m.length cp
      by_cases h60 : (m.length : Int) = n
      · rw [show ((m.length : Int) != n) = false by rw [h60]; simp] at hs
        have HT := Lib.hid (show ∀ z ∈ ts.take (k + 1), (z.length : Int) = n from fun z hz => by
          rw [take_one hm] at hz
          rcases List.mem_append.1 hz with hz | hz
          · exact ht z hz
          · rw [List.mem_singleton] at hz; subst hz; exact h60)
        have HS2 := Lib.hid hs
        clear hm h60 ht hs
        go_wp2_with (go_at_call 42; refine HS2.out.mono ?_; rintro e w2 ⟨rfl, rfl⟩)
        go_roundw
        case rel => exact ⟨k + 1, by omega, by go_num, HT.out, by first | rfl | trivial⟩
        case measure => simp [intOf]; omega
      · rw [show ((m.length : Int) != n) = true by simpa using h60] at hs
        have HT := Lib.hid (show evenB n ts = false by
          rw [Bool.eq_false_iff]
          exact fun q => h60 (even_iff.1 q m (List.mem_of_getElem? hm)))
        have HS2 := Lib.hid hs
        clear hm h60 ht hs
        go_wp2_with (go_at_call 42; refine HS2.out.mono ?_; rintro e w2 ⟨rfl, rfl⟩)
        go_ret
        exact ⟨⟨_, rfl, by rw [HT.out]; simp⟩, rfl⟩
    · have hk9 : k = ts.length := by omega
      subst hk9
      rw [List.take_length] at ht
      have HB0 := Lib.hid (even_iff.2 ht)
      have j1 : ¬ (ts.length : Int) < (ts.length : Int) := by omega
      clear ht
      go_wp2
      go_ret
      exact ⟨⟨_, rfl, by rw [HB0.out]; rfl⟩, rfl⟩
set_option maxRecDepth 100000 in
theorem conT_any (A : Option Addr) (c : Nat) (ts : List (List Int)) (n : Int) (b : Nat) (w : World) (h : TRow w A ts) (hc : w.cell? ⟨b, 0, none⟩ = some (.int .i64 n)) (hl : ts.length ≤ 1000000) :
    Calls Try.prog 41 #[.slice A ts.length c, .func (.func 42) #[] #[.pointer (some ⟨b, 0, none⟩)]] w fun e w' => e = .returned (.bool (!evenB n ts)) ∧ w' = w := by
  have HI := Lib.hid (idxT_any A c ts n b w h hc hl)
  clear h hc
  go_enter Try.func41, Try.ntmps41
  go_wp2_with (go_at_call 52; refine HI.out.mono ?_; rintro e w1 ⟨⟨r, rfl, hr⟩, rfl⟩)
  go_ret
  exact ⟨by rw [← hr]; rfl, rfl⟩
set_option maxRecDepth 100000 in
theorem wide_any (A : Option Addr) (c : Nat) (ts : List (List Int)) (n : Int) (w : World) (h : TRow w A ts) (hl : ts.length ≤ 1000000) :
    Calls Try.prog 22 #[.slice A ts.length c, .int .i64 n] w fun e w' => e = .returned (.bool (evenB n ts)) ∧ Below w.heap.size w w' := by
  have hb1 : Below w.heap.size w (w.alloc (.cells #[.int .i64 n] 3)) := (Below.refl _ _).alloc (Nat.le_refl _) _
  have HC := Lib.hid (conT_any A c ts n w.heap.size _ (h.at hb1) ((Blk.new w 3 #[.int .i64 n]).cell 0) hl)
  have HB := Lib.hid hb1
  generalize evenB n ts = B at *
  clear h hb1
  go_enter Try.func22, Try.ntmps22
  go_wp2_with (go_at_call 41; refine HC.out.mono ?_; rintro e w1 ⟨rfl, rfl⟩)
  go_ret
  exact ⟨by cases B <;> rfl, HB.out⟩

end Go.Proofs.Ytlecofghifjmcaa.Suite
