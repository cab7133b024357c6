/-
  Package suite, walked: tests are put.
-/
import Derived.Test.YtlecofghifjmcaaSuitePChk2
set_option linter.unusedVariables false
namespace Go.Proofs.Ytlecofghifjmcaa.Suite
open Go.RowKit Leb Mem Wire Zig _root_.Go.Proofs.Ytlecofghifjmcaa.Arena _root_.Go.Proofs.Ytlecofghifjmcaa.Delta _root_.Go.Proofs.Ytlecofghifjmcaa.Path _root_.Go.Proofs.Ytlecofghifjmcaa.Cat _root_.Go.Proofs.Ytlecofghifjmcaa.Code
attribute [local go_sem ↓] Go.wp_at_zero Go.wp_at_succ

/-- Since Q a writer has been made, and has come to hold l; all that there was is as it was. -/
def SW (Q : World) (l : List UInt8) (w : World) : Prop := ∃ w2, Below Q.heap.size Q w2 ∧ Wb Q.heap.size none w2 l w
section
variable {Q w w' : World} {l : List UInt8}
theorem SW.to (h : SW Q l w) : Below Q.heap.size Q w := by
  obtain ⟨w2, h1, q⟩ := h
  exact h1.trans (q.to_below h1.size (Nat.le_refl _) (fun k e => by cases e))
theorem SW.drew (h : SW Q l w) : SW Q l w.drew := by
  obtain ⟨w2, h1, q⟩ := h
  exact ⟨w2, h1, q.drew⟩
theorem SW.new (Q : World) : Calls Try.prog 28 #[] Q.drew fun e w' => e = .returned (.pointer (some ⟨Q.heap.size, 0, none⟩)) ∧ SW Q [] w' :=
  (New_any Q.drew).mono (fun e w' h => ⟨h.1, w', (Below.refl _ _).drew.trans h.2.2, Wb.start h.2.1⟩)
theorem SW.num (h : SW Q l w) (n : Int) (h0 : 0 ≤ n) (h1 : n ≤ 18446744073709551615) (hl : l.length + 10 ≤ 1073741824) :
    Calls Try.prog 29 #[.pointer (some ⟨Q.heap.size, 0, none⟩), .int .u64 n] w fun e w' => e = .returned (.pointer (some ⟨Q.heap.size, 0, none⟩)) ∧ SW Q (l ++ lput n.toNat) w' := by
  obtain ⟨w2, h2, q⟩ := h
  exact (q.num n h0 h1 hl).mono (fun e w' k => ⟨k.1, w2, h2, k.2⟩)
theorem SW.int (h : SW Q l w) (n : Int) (h0 : -9223372036854775808 ≤ n) (h1 : n ≤ 9223372036854775807) (hl : l.length + 10 ≤ 1073741824) :
    Calls Try.prog 30 #[.pointer (some ⟨Q.heap.size, 0, none⟩), .int .i64 n] w fun e w' => e = .returned (.pointer (some ⟨Q.heap.size, 0, none⟩)) ∧ SW Q (l ++ Zig.zput n) w' := by
  obtain ⟨w2, h2, q⟩ := h
  exact (q.int n h0 h1 hl).mono (fun e w' k => ⟨k.1, w2, h2, k.2⟩)
theorem SW.bytes (h : SW Q l w) : Calls Try.prog 31 #[.pointer (some ⟨Q.heap.size, 0, none⟩)] w fun e w' => e = .returned (.string ⟨l.toArray⟩) ∧ SW Q l w' := by
  obtain ⟨w2, h2, q⟩ := h
  exact q.bytes.mono (fun e w' k => ⟨k.1, w2, h2, k.2 ▸ q⟩)
end

/-- Is it narrow? -/
def narB (n : Int) : Bool := decide (n ≤ 12)
set_option maxRecDepth 100000 in
theorem put1_any (b : Nat) (n : Int) (w : World) (hc : w.cell? ⟨b, 0, none⟩ = some (.int .i64 n)) :
    Calls Try.prog 27 #[.pointer (some ⟨b, 0, none⟩)] w fun e w' => e = .returned (.bool (narB n)) ∧ w' = w := by
  by_cases h1 : n ≤ 12
  · have HE := Lib.hid (show narB n = true from decide_eq_true h1)
    go_enter Try.func27, Try.ntmps27
    go_wp2
    go_ret
    exact ⟨by rw [HE.out]; rfl, rfl⟩
  · have HE := Lib.hid (show narB n = false from decide_eq_false h1)
    go_enter Try.func27, Try.ntmps27
    go_wp2
    go_ret
    exact ⟨by rw [HE.out]; rfl, rfl⟩
theorem orr_two (a b : Int) : orr [a, b] = if a = 0 then b else a := by
  simp only [orr]
  split
  · split
    · rename_i h; exact h.symm
    · rfl
  · rfl
theorem serr_or2 (ts : List (List Int)) (f : Int) : orr [if narB (wid ts) then 0 else 18, scheck (wid ts) ts f] = serr ts f := by
  rw [orr_two]
  unfold serr
  by_cases h2 : wid ts ≤ 12
  · rw [show narB (wid ts) = true from decide_eq_true (by omega), if_pos rfl, if_pos rfl]
    by_cases h1 : ts.length = 0
    · rw [if_pos (.inl h1)]
      unfold scheck
      rw [if_pos (by omega)]
    · rw [if_neg (by omega)]
  · rw [show narB (wid ts) = false from decide_eq_false (by omega), if_neg (by decide), if_neg (by decide), if_pos (by omega)]
theorem entP : ∀ b : Nat, ∀ w, (callFunc 27 #[.pointer (some ⟨b, 0, none⟩)]).run Try.prog w = .ok (.enter 27 #[.pointer (some ⟨b, 0, none⟩)]) w :=
  fun b w => enters_of Try.func27 (by kernel_rfl) rfl _ w
/-- Put's row of one closure, wherever it lies. -/
theorem un1b_any (b g : Nat) (n : Int) (W : World) (hg : W.cell? ⟨g, 0, none⟩ = some (.func (.func 27) #[] #[.pointer (some ⟨b, 0, none⟩)])) (hc : W.cell? ⟨b, 0, none⟩ = some (.int .i64 n)) :
    Calls Try.prog 19 #[.int .i64 18, .slice (some ⟨g, 0, none⟩) 1 1] W fun e w' => e = .returned (.int .i64 (if narB n then 0 else 18)) ∧ w' = W := by
  refine (unless_any 18 [(27, #[.pointer (some ⟨b, 0, none⟩)])] [narB n] rfl g 1 (fun w => w = W) ?_ ?_ ?_ (by simp) W rfl).mono ?_
  · rintro i f cs hf w rfl
    rcases i with _ | i
    · simp at hf; obtain ⟨rfl, rfl⟩ := hf; exact hg
    · simp at hf
  · rintro i f cs hf B' hB w rfl
    rcases i with _ | i
    · simp at hf hB; obtain ⟨rfl, rfl⟩ := hf; subst hB
      exact put1_any b n _ hc
    · simp at hf
  · intro i f cs hf w
    rcases i with _ | i
    · simp at hf; obtain ⟨rfl, rfl⟩ := hf; exact entP b w
    · simp at hf
  · rintro e w' ⟨rfl, rfl⟩
    exact ⟨by simp [List.all], rfl⟩

theorem un1e_any (b : Nat) (n : Int) (W : World) (hc : (W.alloc (.cells #[.func (.func 27) #[] #[.pointer (some ⟨b, 0, none⟩)]] 23)).cell? ⟨b, 0, none⟩ = some (.int .i64 n)) :
    Calls Try.prog 19 #[.int .i64 18, .slice (some ⟨W.heap.size, 0, none⟩) 1 1] (W.alloc (.cells #[.func (.func 27) #[] #[.pointer (some ⟨b, 0, none⟩)]] 23)) fun e w' => e = .returned (.int .i64 (if narB n then 0 else 18)) ∧ w' = W.alloc (.cells #[.func (.func 27) #[] #[.pointer (some ⟨b, 0, none⟩)]] 23) :=
  un1b_any b W.heap.size n _ ((Blk.new W 23 #[.func (.func 27) #[] #[.pointer (some ⟨b, 0, none⟩)]]).cell 0) hc
theorem un1d_any (b : Nat) (n : Int) (W : World) (hc : (W.alloc (.cells #[.func (.func 27) #[] #[.pointer (some ⟨b, 0, none⟩)]] 23)).cell? ⟨b, 0, none⟩ = some (.int .i64 n)) :
    Calls Try.prog 19 #[.int .i64 18, .slice (some ⟨W.heap.size, 0, none⟩) 1 1] (W.alloc (.cells #[.func (.func 27) #[] #[.pointer (some ⟨b, 0, none⟩)]] 23)).drew fun e w' => e = .returned (.int .i64 (if narB n then 0 else 18)) ∧ w' = (W.alloc (.cells #[.func (.func 27) #[] #[.pointer (some ⟨b, 0, none⟩)]] 23)).drew :=
  un1b_any b W.heap.size n _ ((Blk.new W 23 #[.func (.func 27) #[] #[.pointer (some ⟨b, 0, none⟩)]]).cell 0) hc

/-- What is written of the first tests, and of the first numbers of the next one. -/
def putr (f : Int) (ts : List (List Int)) (k : Nat) : List UInt8 := lput f.toNat ++ lput ts.length ++ lput (wid ts) ++ rowb (ts.take k)
theorem putr_zero (f : Int) (ts : List (List Int)) : putr f ts 0 = lput f.toNat ++ lput ts.length ++ lput (wid ts) := by simp [putr, rowb]
theorem putr_succ {f : Int} {ts : List (List Int)} {k : Nat} {t : List Int} (h : ts[k]? = some t) : putr f ts (k + 1) = putr f ts k ++ intb t := by
  unfold putr
  rw [row_snoc ts k t h]
  simp
theorem putr_all (f : Int) (ts : List (List Int)) : putr f ts ts.length = sput ts f := by
  unfold putr sput
  rw [List.take_length]; simp
theorem putr_len {f : Int} {ts : List (List Int)} (hg : SRight ts f) (h64 : T64 ts) (k : Nat) : (putr f ts k).length ≤ 2500 := by
  unfold putr
  have h1 := lput_len10 (n := f.toNat) (by have := hg.f1; omega)
  have h2 := lput_len10 (n := ts.length) (by have := hg.n1; omega)
  have h3 := lput_len10 (n := wid ts) (by have := hg.w; omega)
  have h4 := rowb_len (m := 12) (ts := ts.take k) (fun t ht => by have := hg.same t (List.mem_of_mem_take ht); have := hg.w; omega) (fun t ht => h64 t (List.mem_of_mem_take ht))
  have h5 : (ts.take k).length ≤ 20 := by rw [List.length_take]; have := hg.n1; omega
  simp only [List.length_append]
  have h6 : 10 * 12 * (ts.take k).length ≤ 2400 := by omega
  omega
theorem intk_len {t : List Int} (h : ∀ x ∈ t, N64 x) (ht : t.length ≤ 12) (k : Nat) : (intb (t.take k)).length ≤ 120 := by
  have := intb_len (t := t.take k) (fun x hx => h x (List.mem_of_mem_take hx))
  have h2 : (t.take k).length ≤ 12 := by rw [List.length_take]; omega
  omega

set_option maxRecDepth 100000 in
set_option maxHeartbeats 4000000 in
/-- What may not be put, is not. -/
theorem SPut_bad (A : Option Addr) (c : Nat) (ts : List (List Int)) (f : Int) (w : World) (h : TRow w A ts) (hl : ts.length ≤ 1000000) (he : serr ts f ≠ 0) :
    Calls Try.prog 13 #[.slice A ts.length c, .int .i64 f] w fun e w' => e = .returned (.tuple #[.string ⟨#[]⟩, .int .i64 (serr ts f)]) ∧ Below w.heap.size w w' := by
  have hb2 : Below w.heap.size w (w.alloc (.cells #[.int .i64 (wid ts)] 3)) := (Below.refl _ _).alloc (Nat.le_refl _) _
  have b1 := Blk.new w 3 #[.int .i64 (wid ts)]
  obtain ⟨w2, hw2⟩ : ∃ w2, w.alloc (.cells #[.int .i64 (wid ts)] 3) = w2 := ⟨_, rfl⟩
  rw [hw2] at hb2 b1
  have HWD := Lib.hid (width_any A c ts w h)
  have HT := Lib.hid (fun W (hb : Below w2.heap.size w2 W) => show W.cell? ⟨w.heap.size, 0, none⟩ = some (.int .i64 (wid ts)) from (b1.below hb b1.lt).cell 0)
  have HN1 := Lib.hid (fun W (hb : Below w2.heap.size w2 W) => un1d_any w.heap.size (wid ts) W (HT.out _ (hb.alloc hb.size _)))
  have HN2 := Lib.hid (fun W (hb : Below w2.heap.size w2 W) => un1e_any w.heap.size (wid ts) W (HT.out _ (hb.alloc hb.size _)))
  have HN3 := Lib.hid (fun W (hb : Below (w2.alloc (.cells #[.func (.func 27) #[] #[.pointer (some ⟨w.heap.size, 0, none⟩)]] 23)).heap.size (w2.alloc (.cells #[.func (.func 27) #[] #[.pointer (some ⟨w.heap.size, 0, none⟩)]] 23)) W) => un1b_any w.heap.size w2.heap.size (wid ts) W (((Blk.new w2 23 #[.func (.func 27) #[] #[.pointer (some ⟨w.heap.size, 0, none⟩)]]).below hb (Blk.new w2 23 #[.func (.func 27) #[] #[.pointer (some ⟨w.heap.size, 0, none⟩)]]).lt).cell 0) (HT.out _ (((Below.refl _ _).alloc (Nat.le_refl _) _).trans (hb.mono (by simp)))))
  have HC := Lib.hid (fun W (hb : Below w2.heap.size w2 W) => PCheck_any (wid ts) A c ts f W ((h.at hb2).at hb) hl)
  have HO := Lib.hid or2_any
  have HE := Lib.hid (serr_or2 ts f)
  generalize serr ts f = E at *
  generalize scheck (wid ts) ts f = e2 at *
  generalize (if narB (wid ts) then (0 : Int) else 18) = e1 at *
  have HW := Lib.hid hw2
  have HB := Lib.hid hb2
  have he' : (E != 0) = true := by simpa using he
  have hB := Below.refl w2.heap.size w2
  clear h hb2 b1 hw2 he
  go_enter Try.func13, Try.ntmps13
  go_wp2_with (first | (go_at_call 26; (with_reducible refine HWD.out.mono ?_); rintro e w1 ⟨rfl, hq⟩; have hq := hq.symm; subst hq) | fail)
  rw [HW.out]
  have hC := HT.out _ hB
  go_region_held3 (fun w' => w'.cell? ⟨w.heap.size, 0, none⟩ = some (.int .i64 (wid ts))) (first | (with_reducible exact hC) | (with_reducible exact HT.out _ hB.drew) | (with_reducible exact HT.out _ (hB.alloc hB.size _)) | (with_reducible exact HT.out _ (hB.alloc hB.size _).drew) | (with_reducible exact HT.out _ (hB.drew.alloc hB.size _)) | fail) (first
    | (go_at_call 10; first
        | ((with_reducible refine (HC.out _ hB.drew).mono ?_); rintro e w4 ⟨rfl, hb4⟩; have hB := hB.drew.trans (hb4.mono hB.size); have hC := HT.out _ hB)
        | ((with_reducible refine (HC.out _ hB).mono ?_); rintro e w4 ⟨rfl, hb4⟩; have hB := hB.trans (hb4.mono hB.size); have hC := HT.out _ hB)
        | ((with_reducible refine (HC.out _ (hB.alloc hB.size (.cells #[.func (.func 27) #[] #[.pointer (some ⟨w.heap.size, 0, none⟩)]] 23)).drew).mono ?_); rintro e w4 ⟨rfl, hb4⟩; have hX := (Below.refl _ _).drew.trans hb4; have hB := (hB.alloc hB.size (.cells #[.func (.func 27) #[] #[.pointer (some ⟨w.heap.size, 0, none⟩)]] 23)).drew.trans (hb4.mono (hB.alloc hB.size (.cells #[.func (.func 27) #[] #[.pointer (some ⟨w.heap.size, 0, none⟩)]] 23)).size); have hC := HT.out _ hB)
        | fail)
    | (go_at_call 19; first
        | ((with_reducible refine (HN1.out _ hB).mono ?_); rintro e w5 ⟨rfl, rfl⟩; have hB := (hB.alloc hB.size (.cells #[.func (.func 27) #[] #[.pointer (some ⟨w.heap.size, 0, none⟩)]] 23)).drew; have hC := HT.out _ hB)
        | ((with_reducible refine (HN2.out _ hB).mono ?_); rintro e w5 ⟨rfl, rfl⟩; have hB := hB.alloc hB.size (.cells #[.func (.func 27) #[] #[.pointer (some ⟨w.heap.size, 0, none⟩)]] 23); have hC := HT.out _ hB)
        | ((with_reducible refine (HN3.out _ hX).mono ?_); rintro e w5 ⟨rfl, hq⟩; have hq := hq.symm; subst hq)
        | fail)
    | (go_at_call 18; (with_reducible refine (HO.out _ _ _).mono ?_); rintro e w6 ⟨rfl, rfl⟩)
    | fail)
  rw [HE.out]
  go_wp2_with fail
  go_returns
  exact ⟨rfl, HB.out.trans ((hB.alloc hB.size _).mono HB.out.size)⟩

set_option maxRecDepth 100000 in
set_option maxHeartbeats 4000000 in
/-- What may be put, is. -/
theorem SPut_good (A : Option Addr) (c : Nat) (ts : List (List Int)) (f : Int) (w : World) (h : TRow w A ts) (h64 : T64 ts) (hr : SRight ts f) :
    Calls Try.prog 13 #[.slice A ts.length c, .int .i64 f] w fun e w' => e = .returned (.tuple #[.string ⟨(sput ts f).toArray⟩, .int .i64 0]) ∧ Below w.heap.size w w' := by
  have hl : ts.length ≤ 1000000 := by have := hr.n1; omega
  have hz := serr_zero.2 hr
  have HP := Lib.hid (putr_all f ts)
  generalize sput ts f = D at *
  have HL := Lib.hid h
  have hb2 : Below w.heap.size w (w.alloc (.cells #[.int .i64 (wid ts)] 3)) := (Below.refl _ _).alloc (Nat.le_refl _) _
  have b1 := Blk.new w 3 #[.int .i64 (wid ts)]
  obtain ⟨w2, hw2⟩ : ∃ w2, w.alloc (.cells #[.int .i64 (wid ts)] 3) = w2 := ⟨_, rfl⟩
  rw [hw2] at hb2 b1
  have HWD := Lib.hid (width_any A c ts w h)
  have HT := Lib.hid (fun W (hb : Below w2.heap.size w2 W) => show W.cell? ⟨w.heap.size, 0, none⟩ = some (.int .i64 (wid ts)) from (b1.below hb b1.lt).cell 0)
  have HN1 := Lib.hid (fun W (hb : Below w2.heap.size w2 W) => un1d_any w.heap.size (wid ts) W (HT.out _ (hb.alloc hb.size _)))
  have HN2 := Lib.hid (fun W (hb : Below w2.heap.size w2 W) => un1e_any w.heap.size (wid ts) W (HT.out _ (hb.alloc hb.size _)))
  have HN3 := Lib.hid (fun W (hb : Below (w2.alloc (.cells #[.func (.func 27) #[] #[.pointer (some ⟨w.heap.size, 0, none⟩)]] 23)).heap.size (w2.alloc (.cells #[.func (.func 27) #[] #[.pointer (some ⟨w.heap.size, 0, none⟩)]] 23)) W) => un1b_any w.heap.size w2.heap.size (wid ts) W (((Blk.new w2 23 #[.func (.func 27) #[] #[.pointer (some ⟨w.heap.size, 0, none⟩)]]).below hb (Blk.new w2 23 #[.func (.func 27) #[] #[.pointer (some ⟨w.heap.size, 0, none⟩)]]).lt).cell 0) (HT.out _ (((Below.refl _ _).alloc (Nat.le_refl _) _).trans (hb.mono (by simp)))))
  have HC := Lib.hid (fun W (hb : Below w2.heap.size w2 W) => PCheck_any (wid ts) A c ts f W ((h.at hb2).at hb) hl)
  have HO := Lib.hid or2_any
  have HE := Lib.hid ((serr_or2 ts f).trans hz)
  generalize scheck (wid ts) ts f = e2 at *
  generalize (if narB (wid ts) then (0 : Int) else 18) = e1 at *
  have HW := Lib.hid hw2
  have HB := Lib.hid hb2
  have HLEN := Lib.hid (fun k => putr_len hr h64 k)
  have HR := Lib.hid hr
  have H64 := Lib.hid h64
  have n1 := hr.n1
  have f1 := hr.f1
  have f0 := hr.f0
  have ww := hr.w
  have v1 : IntKind.u64.wrap f = f := wrap_u64_of (by omega) (by omega)
  have v2 : IntKind.u64.wrap (ts.length : Int) = ts.length := wrap_u64_of (by omega) (by omega)
  have v3 : IntKind.u64.wrap (wid ts : Int) = wid ts := wrap_u64_of (by omega) (by omega)
  have l1 := lput_len10 (n := f.toNat) (by omega)
  have l2 := lput_len10 (n := ts.length) (by omega)
  have hB := Below.refl w2.heap.size w2
  clear h hb2 b1 hw2 hz hr h64
  go_enter Try.func13, Try.ntmps13
  go_wp2_with (first | (go_at_call 26; (with_reducible refine HWD.out.mono ?_); rintro e w1 ⟨rfl, hq⟩; have hq := hq.symm; subst hq) | fail)
  rw [HW.out]
  have hC := HT.out _ hB
  go_region_held3 (fun w' => w'.cell? ⟨w.heap.size, 0, none⟩ = some (.int .i64 (wid ts))) (first | (with_reducible exact hC) | (with_reducible exact HT.out _ hB.drew) | (with_reducible exact HT.out _ (hB.alloc hB.size _)) | (with_reducible exact HT.out _ (hB.alloc hB.size _).drew) | (with_reducible exact HT.out _ (hB.drew.alloc hB.size _)) | fail) (first
    | (go_at_call 10; first
        | ((with_reducible refine (HC.out _ hB.drew).mono ?_); rintro e w4 ⟨rfl, hb4⟩; have hB := hB.drew.trans (hb4.mono hB.size); have hC := HT.out _ hB)
        | ((with_reducible refine (HC.out _ hB).mono ?_); rintro e w4 ⟨rfl, hb4⟩; have hB := hB.trans (hb4.mono hB.size); have hC := HT.out _ hB)
        | ((with_reducible refine (HC.out _ (hB.alloc hB.size (.cells #[.func (.func 27) #[] #[.pointer (some ⟨w.heap.size, 0, none⟩)]] 23)).drew).mono ?_); rintro e w4 ⟨rfl, hb4⟩; have hX := (Below.refl _ _).drew.trans hb4; have hB := (hB.alloc hB.size (.cells #[.func (.func 27) #[] #[.pointer (some ⟨w.heap.size, 0, none⟩)]] 23)).drew.trans (hb4.mono (hB.alloc hB.size (.cells #[.func (.func 27) #[] #[.pointer (some ⟨w.heap.size, 0, none⟩)]] 23)).size); have hC := HT.out _ hB)
        | fail)
    | (go_at_call 19; first
        | ((with_reducible refine (HN1.out _ hB).mono ?_); rintro e w5 ⟨rfl, rfl⟩; have hB := (hB.alloc hB.size (.cells #[.func (.func 27) #[] #[.pointer (some ⟨w.heap.size, 0, none⟩)]] 23)).drew; have hC := HT.out _ hB)
        | ((with_reducible refine (HN2.out _ hB).mono ?_); rintro e w5 ⟨rfl, rfl⟩; have hB := hB.alloc hB.size (.cells #[.func (.func 27) #[] #[.pointer (some ⟨w.heap.size, 0, none⟩)]] 23); have hC := HT.out _ hB)
        | ((with_reducible refine (HN3.out _ hX).mono ?_); rintro e w5 ⟨rfl, hq⟩; have hq := hq.symm; subst hq)
        | fail)
    | (go_at_call 18; (with_reducible refine (HO.out _ _ _).mono ?_); rintro e w6 ⟨rfl, rfl⟩)
    | fail)
  rw [HE.out]
  obtain ⟨wQ, hwQ⟩ : ∃ wQ, w4.alloc (.cells #[.int .i64 e1, .int .i64 e2] 26) = wQ := ⟨_, rfl⟩
  have hB9 := hB.alloc hB.size (.cells #[.int .i64 e1, .int .i64 e2] 26)
  rw [hwQ] at hB9 ⊢
  have hC := HT.out _ hB9
  have HTQ := Lib.hid (fun W (hb : Below wQ.heap.size wQ W) => HT.out W (hB9.trans (hb.mono hB9.size)))
  have HBQ := Lib.hid (HB.out.trans (hB9.mono HB.out.size))
  have HLQ := Lib.hid (HL.out.at HBQ.out)
  clear hB hB9 hwQ HT HN1 HN2 HN3 HC HO HL HW HB HWD
  go_wp2_with fail
  have H0 := Lib.hid (SW.new wQ)
  have H1 := Lib.hid (fun W (h : SW wQ [] W) => SW.num h f (by omega) (by omega) (by simp))
  have H2 := Lib.hid (fun W (h : SW wQ ([] ++ lput f.toNat) W) => SW.num h (ts.length : Int) (by omega) (by omega) (by simp; omega))
  have H3 := Lib.hid (fun W (h : SW wQ ([] ++ lput f.toNat ++ lput (ts.length : Int).toNat) W) => SW.num h (wid ts : Int) (by omega) (by omega) (by simp; omega))
  go_region_held3 (fun w' => w'.cell? ⟨w.heap.size, 0, none⟩ = some (.int .i64 (wid ts))) (first | exact hC | fail) (first
    | (go_at_call 28; (with_reducible refine H0.out.mono ?_); rintro e w2 ⟨rfl, hS⟩; have hC := HTQ.out _ hS.to)
    | (go_at_call 29; first
        | ((with_reducible refine (H1.out _ hS).mono ?_); rintro e w3 ⟨rfl, hS⟩; have hC := HTQ.out _ hS.to)
        | ((with_reducible refine (H2.out _ hS).mono ?_); rintro e w3 ⟨rfl, hS⟩; have hC := HTQ.out _ hS.to)
        | ((with_reducible refine (H3.out _ hS).mono ?_); rintro e w3 ⟨rfl, hS⟩; have hC := HTQ.out _ hS.to)
        | fail)
    | fail)
  rw [List.nil_append, Int.toNat_natCast, Int.toNat_natCast, ← putr_zero] at hS
  clear H0 H1 H2 H3 l1 l2 hC
  go_wp2_with fail
  go_loopw [42] (fun i wr => ∃ k : Nat, k ≤ ts.length ∧ i = .int .i64 k ∧ SW wQ (putr f ts k) wr) (fun i _ => ts.length - (intOf i).toNat)
  case atStart => exact ⟨0, by omega, rfl, hS⟩
  case round =>
    clear hS
    obtain ⟨k, hk, rfl, hS⟩ := hrel
    by_cases hlt : k < ts.length
    · obtain ⟨m, hm⟩ : ∃ m, ts[k]? = some m := ⟨_, List.getElem?_eq_getElem hlt⟩
      obtain ⟨ad', P', cp', rfl, K⟩ := HLQ.out.get hm
      have km := (K _ hS.to).2
      have HKm := Lib.hid K
      have HS := Lib.hid (putr_succ (f := f) hm)
      have hr := HLEN.out k
      have i1 : (k : Int) < (ts.length : Int) := by omega
      have i2 : (0 : Int) ≤ (k : Int) := by omega
      have i5 : IntKind.i64.wrap ((k : Int) + 1) = (k : Int) + 1 := IntWalk.i64_in _ (by omega)
      have hml : m.length ≤ 12 := by rw [HR.out.same m (List.mem_of_getElem? hm)]; exact ww
      have HNm := Lib.hid (H64.out m (List.mem_of_getElem? hm))
      generalize putr f ts k = L2 at *
      clear hm K
      go_wp2_with fail
      go_loopw [48] (fun i W => ∃ j : Nat, j ≤ m.length ∧ i = .int .i64 j ∧ SW wQ (L2 ++ intb (m.take j)) W) (fun i _ => m.length - (intOf i).toNat)
      case atStart => exact ⟨0, by omega, rfl, by simpa [intb] using hS⟩
      case round =>
        clear hS km
        obtain ⟨j, hj, rfl, hS⟩ := hrel
        by_cases hlt2 : j < m.length
        · obtain ⟨x, hx⟩ : ∃ x, m[j]? = some x := ⟨_, List.getElem?_eq_getElem hlt2⟩
          obtain ⟨adx, rfl, hbx, kx⟩ := (HKm.out _ hS.to).1.row j x hx
          have hN := HNm.out x (List.mem_of_getElem? hx)
          have hr2 := intk_len HNm.out hml j
          have HI := Lib.hid (hS.int x hN.1 hN.2 (by rw [List.length_append]; omega))
          rw [List.append_assoc, ← int_snoc m j x hx] at HI
          have i3 : (j : Int) < (m.length : Int) := by omega
          have i4 : (0 : Int) ≤ (j : Int) := by omega
          have i6 : IntKind.i64.wrap ((j : Int) + 1) = (j : Int) + 1 := IntWalk.i64_in _ (by omega)
          clear hx hN hr2 hS
          go_wp2_with (go_at_call 30; (with_reducible refine HI.out.mono ?_); rintro e w5 ⟨rfl, hS⟩)
          go_roundw
          case rel => exact ⟨j + 1, by omega, by go_num, hS⟩
          case measure => simp [intOf]; omega
        · obtain rfl : j = m.length := by omega
          rw [List.take_length, ← HS.out] at hS
          have i3 : ¬ (m.length : Int) < (m.length : Int) := by omega
          go_wp2_with fail
          go_roundw
          case rel => exact ⟨k + 1, by omega, by go_num, hS⟩
          case measure => simp [intOf]; omega
    · obtain rfl : k = ts.length := by omega
      have i1 : ¬ (ts.length : Int) < (ts.length : Int) := by omega
      rw [HP.out] at hS
      have HBy := Lib.hid hS.bytes
      clear hS
      go_wp2_with (go_at_call 31; (with_reducible refine HBy.out.mono ?_); rintro e w7 ⟨rfl, hS⟩)
      go_returns
      exact ⟨rfl, HBQ.out.trans (hS.to.mono HBQ.out.size)⟩

end Go.Proofs.Ytlecofghifjmcaa.Suite
