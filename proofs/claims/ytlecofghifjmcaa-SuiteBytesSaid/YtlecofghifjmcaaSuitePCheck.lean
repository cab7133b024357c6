/-
  Package suite, walked: are tests alike; may they be.
-/
import Derived.Test.YtlecofghifjmcaaSuitePSmall
set_option linter.unusedVariables false
namespace Go.Proofs.Ytlecofghifjmcaa.Suite
open Go.RowKit Mem _root_.Go.Proofs.Ytlecofghifjmcaa.Arena _root_.Go.Proofs.Ytlecofghifjmcaa.Delta _root_.Go.Proofs.Ytlecofghifjmcaa.Path _root_.Go.Proofs.Ytlecofghifjmcaa.Cat
attribute [local go_sem ↓] Go.wp_at_zero Go.wp_at_succ

set_option maxRecDepth 100000 in
set_option maxHeartbeats 1000000 in
theorem equalI_any (A : Option Addr) (cap : Nat) (xs : List Int) (A' : Option Addr) (cap' : Nat) (ys : List Int) (w : World) (hx : IRow w w.heap.size A xs) (hy : IRow w w.heap.size A' ys) (hlen : xs.length ≤ 1000000) :
    Calls Try.prog 25 #[.slice A xs.length cap, .slice A' ys.length cap'] w fun e w' => e = .returned (.bool (decide (xs = ys))) ∧ Below w.heap.size w w' := by
  by_cases hll : xs.length = ys.length
  · have HX := Lib.hid hx
    have HY := Lib.hid hy
    clear hx hy
    obtain ⟨n, hn⟩ : ∃ n, n = xs.length := ⟨_, rfl⟩
    have hn' : ys.length = n := by omega
    rw [hn', ← hn]
    have HN := Lib.hid hn
    have HN' := Lib.hid hn'
    rw [← hn] at hlen
    clear hn hn' hll
    go_enter Try.func25, Try.ntmps25
    go_wp2
    go_loopw [5, 13] (fun _ i wr => ∃ k : Nat, k ≤ n ∧ xs.take k = ys.take k ∧ i = .int .i64 k ∧ Below w.heap.size w wr) (fun _ i _ => n - (intOf i).toNat)
    case atStart => exact ⟨0, by omega, rfl, rfl, Below.refl _ _⟩
    case round =>
      obtain ⟨k, hk, hs, rfl, hB⟩ := hrel
      by_cases hlt : k < n
      · obtain ⟨x1, hxk⟩ : ∃ x, xs[k]? = some x := ⟨_, List.getElem?_eq_getElem (show k < xs.length by rw [← HN.out]; exact hlt)⟩
        obtain ⟨y1, hyk⟩ : ∃ y, ys[k]? = some y := ⟨_, List.getElem?_eq_getElem (show k < ys.length by rw [HN'.out]; exact hlt)⟩
        obtain ⟨ad, rfl, hb, h0⟩ := (HX.out.below hB) k _ hxk
        obtain ⟨ad', rfl, hb', g0⟩ := (HY.out.below hB) k _ hyk
        by_cases htu : x1 = y1
        · have HS := Lib.hid (show xs.take (k + 1) = ys.take (k + 1) by rw [take_snoc xs k _ hxk, take_snoc ys k _ hyk, hs, htu])
          subst htu
          clear hxk hyk hs
          go_wp2
          go_quiet (fail)
          go_wp2
          go_roundw
          case rel => exact ⟨k + 1, by omega, HS.out, by go_num, belowN hB _⟩
          case measure => simp [intOf]; omega
        · have HS := Lib.hid (rows_differ hxk hyk htu)
          have e2 : (x1 == y1) = false := by simpa using htu
          clear hxk hyk hs htu
          go_wp2
          go_quiet (fail)
          go_wp2
          go_ret
          exact ⟨by rw [HS.out]; rfl, belowN hB _⟩
      · have hk9 : k = n := by omega
        subst hk9
        have HF := Lib.hid (rows_alike hs HN.out HN'.out)
        clear hs
        go_wp2
        go_ret
        exact ⟨by rw [HF.out]; rfl, hB⟩
  · have HF := Lib.hid (show decide (xs = ys) = false by
      apply decide_eq_false
      rintro rfl
      exact hll rfl)
    have hne : ((xs.length : Int) == (ys.length : Int)) = false := by rw [beq_eq_false_iff_ne]; omega
    have hne2 : ((xs.length : Int) != (ys.length : Int)) = true := by simp; omega
    go_enter Try.func25, Try.ntmps25
    go_wp2
    go_ret
    exact ⟨by rw [HF.out]; rfl, Below.refl _ _⟩

set_option maxRecDepth 100000 in
set_option maxHeartbeats 1000000 in
theorem equalT_any (A : Option Addr) (c : Nat) (ts : List (List Int)) (A' : Option Addr) (c' : Nat) (us : List (List Int)) (w : World) (h : TRow w A ts) (h' : TRow w A' us) (hl : ts.length ≤ 1000000) (hm : ∀ t ∈ ts, t.length ≤ 1000000) :
    Calls Try.prog 24 #[.slice A ts.length c, .slice A' us.length c', .func (.func 25) #[] #[]] w fun e w' => e = .returned (.bool (decide (ts = us))) ∧ Below w.heap.size w w' := by
  by_cases hlen : ts.length = us.length
  · have e0 : ((ts.length : Int) != (us.length : Int)) = false := by rw [hlen]; simp
    have HL := Lib.hid h
    have HL' := Lib.hid h'
    have HLE := Lib.hid hlen
    have HM := Lib.hid hm
    clear h h' hlen hm
    go_enter Try.func24, Try.ntmps24
    go_wp2_with fail
    go_loopw [17] (fun i wr => ∃ j : Nat, j ≤ ts.length ∧ i = .int .i64 j ∧ ts.take j = us.take j ∧ Below w.heap.size w wr) (fun i _ => ts.length - (intOf i).toNat)
    case atStart => exact ⟨0, by omega, rfl, rfl, Below.refl _ _⟩
    case round =>
      obtain ⟨j, hj, rfl, ht, hB⟩ := hrel
      have hlen := HLE.out
      by_cases hlt : j < ts.length
      · obtain ⟨m, hm⟩ : ∃ m, ts[j]? = some m := ⟨_, List.getElem?_eq_getElem hlt⟩
        obtain ⟨m', hm'⟩ : ∃ m, us[j]? = some m := ⟨_, List.getElem?_eq_getElem (by omega)⟩
        obtain ⟨ad, P, cp, rfl, K⟩ := (HL.out.at hB).get hm
        obtain ⟨ad', P', cp', rfl, K'⟩ := (HL'.out.at hB).get hm'
        have i1 : (j : Int) < (ts.length : Int) := by omega
        have i2 : (0 : Int) ≤ (j : Int) := by omega
        have i3 : (j : Int) < (us.length : Int) := by omega
        have k1 := (K _ (Below.refl _ _)).2
        have k2 := (K' _ (Below.refl _ _)).2
        have HCC := Lib.hid (equalI_any P cp m P' cp' m' wr (K _ (Below.refl _ _)).1.row (K' _ (Below.refl _ _)).1.row (HM.out m (List.mem_of_getElem? hm)))
        have HMm := Lib.hid hm
        have HMm' := Lib.hid hm'
        have HT := Lib.hid ht
        clear K K' hm hm' ht hlen
        by_cases hr : m = m'
        · rw [decide_eq_true hr] at HCC
          have HE := Lib.hid hr
          clear hr
          go_wp2_with (go_at_call 25; refine HCC.out.mono ?_; rintro e w6 ⟨rfl, hb6⟩; have hb7 := hB.trans (hb6.mono hB.size))
          go_roundw
          case rel => exact ⟨j + 1, by omega, by go_num, by rw [take_one HMm.out, take_one HMm'.out, HT.out, HE.out], hb7⟩
          case measure => simp [intOf]; omega
        · rw [decide_eq_false hr] at HCC
          have HE := Lib.hid (show decide (ts = us) = false from decide_eq_false (fun e => by
            have h1 := HMm.out
            rw [e, HMm'.out] at h1
            exact hr (Option.some.inj h1).symm))
          clear hr
          go_wp2_with (go_at_call 25; refine HCC.out.mono ?_; rintro e w6 ⟨rfl, hb6⟩; have hb7 := hB.trans (hb6.mono hB.size))
          go_ret
          exact ⟨by rw [HE.out]; first | done | rfl, hb7⟩
      · obtain rfl : j = ts.length := by omega
        rw [List.take_length, hlen, List.take_length] at ht
        have HE := Lib.hid (decide_eq_true ht)
        have i1 : ¬ (ts.length : Int) < (ts.length : Int) := by omega
        clear hlen ht
        go_wp2_with fail
        go_ret
        exact ⟨by rw [HE.out]; first | done | rfl, hB⟩
  · have e0 : ((ts.length : Int) != (us.length : Int)) = true := by simp; omega
    have HE := Lib.hid (show decide (ts = us) = false from decide_eq_false (fun e => hlen (by rw [e])))
    clear hlen
    go_enter Try.func24, Try.ntmps24
    go_wp2_with fail
    go_ret
    exact ⟨by rw [HE.out]; first | done | rfl, Below.refl _ _⟩
set_option maxRecDepth 100000 in
theorem PSame_any (A : Option Addr) (c : Nat) (ts : List (List Int)) (A' : Option Addr) (c' : Nat) (us : List (List Int)) (w : World) (h : TRow w A ts) (h' : TRow w A' us) (hl : ts.length ≤ 1000000) (hm : ∀ t ∈ ts, t.length ≤ 1000000) :
    Calls Try.prog 12 #[.slice A ts.length c, .slice A' us.length c'] w fun e w' => e = .returned (.bool (decide (ts = us))) ∧ Below w.heap.size w w' := by
  have HE := Lib.hid (equalT_any A c ts A' c' us w h h' hl hm)
  generalize decide (ts = us) = B at *
  clear h h' hm
  go_enter Try.func12, Try.ntmps12
  go_wp2_with (go_at_call 24; refine HE.out.mono ?_; rintro e w1 ⟨rfl, hb⟩)
  go_ret
  exact ⟨rfl, hb⟩

def fewB (ts : List (List Int)) : Bool := decide (1 ≤ ts.length ∧ ts.length ≤ 20)
def fuelB (f : Int) : Bool := decide (1 ≤ f ∧ f ≤ 10000)
set_option maxRecDepth 100000 in
theorem chk1_any (b : Nat) (A : Option Addr) (c : Nat) (ts : List (List Int)) (w : World) (hc : w.cell? ⟨b, 0, none⟩ = some (.slice A ts.length c)) :
    Calls Try.prog 20 #[.pointer (some ⟨b, 0, none⟩)] w fun e w' => e = .returned (.bool (fewB ts)) ∧ w' = w := by
  by_cases h1 : 1 ≤ ts.length
  · have j1 : (1 : Int) ≤ (ts.length : Int) := by omega
    by_cases h2 : ts.length ≤ 20
    · have j2 : (ts.length : Int) ≤ (20 : Int) := by omega
      have HE := Lib.hid (show fewB ts = true from decide_eq_true ⟨h1, h2⟩)
      clear h1 h2
      go_enter Try.func20, Try.ntmps20
      go_wp2
      go_ret
      exact ⟨by rw [HE.out]; rfl, rfl⟩
    · have j2 : ¬ (ts.length : Int) ≤ (20 : Int) := by omega
      have HE := Lib.hid (show fewB ts = false from decide_eq_false (fun h => h2 h.2))
      clear h1 h2
      go_enter Try.func20, Try.ntmps20
      go_wp2
      go_ret
      exact ⟨by rw [HE.out]; rfl, rfl⟩
  · have j1 : ¬ (1 : Int) ≤ (ts.length : Int) := by omega
    have HE := Lib.hid (show fewB ts = false from decide_eq_false (fun h => h1 h.1))
    clear h1
    go_enter Try.func20, Try.ntmps20
    go_wp2
    go_ret
    exact ⟨by rw [HE.out]; rfl, rfl⟩
set_option maxRecDepth 100000 in
theorem chk2_any (b d : Nat) (A : Option Addr) (c : Nat) (ts : List (List Int)) (n : Int) (w : World) (h : TRow w A ts) (hl : ts.length ≤ 1000000) (hc : w.cell? ⟨b, 0, none⟩ = some (.slice A ts.length c)) (hd : w.cell? ⟨d, 0, none⟩ = some (.int .i64 n)) :
    Calls Try.prog 21 #[.pointer (some ⟨b, 0, none⟩), .pointer (some ⟨d, 0, none⟩)] w fun e w' => e = .returned (.bool (evenB n ts)) ∧ Below w.heap.size w w' := by
  have HE := Lib.hid (wide_any A c ts n w h hl)
  generalize evenB n ts = B at *
  clear h
  go_enter Try.func21, Try.ntmps21
  go_wp2_with (go_at_call 22; refine HE.out.mono ?_; rintro e w1 ⟨rfl, hb⟩)
  go_ret
  exact ⟨rfl, hb⟩
set_option maxRecDepth 100000 in
theorem chk3_any (b : Nat) (f : Int) (w : World) (hc : w.cell? ⟨b, 0, none⟩ = some (.int .i64 f)) :
    Calls Try.prog 23 #[.pointer (some ⟨b, 0, none⟩)] w fun e w' => e = .returned (.bool (fuelB f)) ∧ w' = w := by
  by_cases h1 : 1 ≤ f
  · by_cases h2 : f ≤ 10000
    · have HE := Lib.hid (show fuelB f = true from decide_eq_true ⟨h1, h2⟩)
      go_enter Try.func23, Try.ntmps23
      go_wp2
      go_ret
      exact ⟨by rw [HE.out]; rfl, rfl⟩
    · have HE := Lib.hid (show fuelB f = false from decide_eq_false (fun h => h2 h.2))
      go_enter Try.func23, Try.ntmps23
      go_wp2
      go_ret
      exact ⟨by rw [HE.out]; rfl, rfl⟩
  · have HE := Lib.hid (show fuelB f = false from decide_eq_false (fun h => h1 h.1))
    go_enter Try.func23, Try.ntmps23
    go_wp2
    go_ret
    exact ⟨by rw [HE.out]; rfl, rfl⟩

/-- The rows of closures that Check asks. -/
theorem un2_any (b d : Nat) (A : Option Addr) (c : Nat) (ts : List (List Int)) (n : Int) (W : World) (h : TRow W A ts) (hl : ts.length ≤ 1000000) (hb : b < W.heap.size) (hd : d < W.heap.size) (hc : W.cell? ⟨b, 0, none⟩ = some (.slice A ts.length c)) (hn : W.cell? ⟨d, 0, none⟩ = some (.int .i64 n)) :
    Calls Try.prog 19 #[.int .i64 18, .slice (some ⟨W.heap.size, 0, none⟩) 2 2] (W.alloc (.cells #[.func (.func 20) #[] #[.pointer (some ⟨b, 0, none⟩)], .func (.func 21) #[] #[.pointer (some ⟨b, 0, none⟩), .pointer (some ⟨d, 0, none⟩)]] 23)) fun e w' => e = .returned (.int .i64 (if fewB ts && evenB n ts then 0 else 18)) ∧ Below W.heap.size W w' := by
  have bX := Blk.new W 23 #[.func (.func 20) #[] #[.pointer (some ⟨b, 0, none⟩)], .func (.func 21) #[] #[.pointer (some ⟨b, 0, none⟩), .pointer (some ⟨d, 0, none⟩)]]
  have hb1 : Below W.heap.size W (W.alloc (.cells #[.func (.func 20) #[] #[.pointer (some ⟨b, 0, none⟩)], .func (.func 21) #[] #[.pointer (some ⟨b, 0, none⟩), .pointer (some ⟨d, 0, none⟩)]] 23)) := (Below.refl _ _).alloc (Nat.le_refl _) _
  generalize W.alloc (.cells #[.func (.func 20) #[] #[.pointer (some ⟨b, 0, none⟩)], .func (.func 21) #[] #[.pointer (some ⟨b, 0, none⟩), .pointer (some ⟨d, 0, none⟩)]] 23) = W1 at *
  have hlt := bX.lt
  refine (unless_any 18 [(20, #[.pointer (some ⟨b, 0, none⟩)]), (21, #[.pointer (some ⟨b, 0, none⟩), .pointer (some ⟨d, 0, none⟩)])] [fewB ts, evenB n ts] rfl W.heap.size 2
    (fun w => Below W1.heap.size W1 w) ?_ ?_ ?_ (by simp) W1 (Below.refl _ _)).mono ?_
  · rintro i f cs hf w hw
    rcases i with _ | _ | i
    · simp at hf; obtain ⟨rfl, rfl⟩ := hf; exact (bX.below hw hlt).cell 0
    · simp at hf; obtain ⟨rfl, rfl⟩ := hf; exact (bX.below hw hlt).cell 1
    · simp at hf
  · rintro i f cs hf B hB w hw
    have h2 : Below W.heap.size W w := hb1.trans (hw.mono hb1.size)
    have c1 := (h2.cell (p := ⟨b, 0, none⟩) hb).trans hc
    have c2 := (h2.cell (p := ⟨d, 0, none⟩) hd).trans hn
    rcases i with _ | _ | i
    · simp at hf hB; obtain ⟨rfl, rfl⟩ := hf; subst hB
      refine (chk1_any b A c ts w c1).mono ?_
      rintro e w' ⟨rfl, rfl⟩
      exact ⟨rfl, hw⟩
    · simp at hf hB; obtain ⟨rfl, rfl⟩ := hf; subst hB
      refine (chk2_any b d A c ts n w (h.at h2) hl c1 c2).mono ?_
      rintro e w' ⟨rfl, hb'⟩
      exact ⟨rfl, hw.trans (hb'.mono hw.size)⟩
    · simp at hf
  · intro i f cs hf w
    rcases i with _ | _ | i
    · simp at hf; obtain ⟨rfl, rfl⟩ := hf; rfl
    · simp at hf; obtain ⟨rfl, rfl⟩ := hf; rfl
    · simp at hf
  · rintro e w' ⟨rfl, hb'⟩
    exact ⟨by simp [List.all], hb1.trans (hb'.mono hb1.size)⟩
theorem ent3 : ∀ b : Nat, ∀ w, (callFunc 23 #[.pointer (some ⟨b, 0, none⟩)]).run Try.prog w = .ok (.enter 23 #[.pointer (some ⟨b, 0, none⟩)]) w :=
  fun b w => enters_of Try.func23 (by kernel_rfl) rfl _ w
theorem un1_any (er : Int) (F : FuncId) (hF : ∀ b : Nat, ∀ w, (callFunc F #[.pointer (some ⟨b, 0, none⟩)]).run Try.prog w = .ok (.enter F #[.pointer (some ⟨b, 0, none⟩)]) w) (b : Nat) (B : Bool) (n : Int)
    (hask : ∀ w : World, w.cell? ⟨b, 0, none⟩ = some (.int .i64 n) → Calls Try.prog F #[.pointer (some ⟨b, 0, none⟩)] w fun e w' => e = .returned (.bool B) ∧ w' = w)
    (W : World) (hb : b < W.heap.size) (hc : W.cell? ⟨b, 0, none⟩ = some (.int .i64 n)) :
    Calls Try.prog 19 #[.int .i64 er, .slice (some ⟨W.heap.size, 0, none⟩) 1 1] (W.alloc (.cells #[.func (.func F) #[] #[.pointer (some ⟨b, 0, none⟩)]] 23)) fun e w' => e = .returned (.int .i64 (if B then 0 else er)) ∧ Below W.heap.size W w' := by
  have bX := Blk.new W 23 #[.func (.func F) #[] #[.pointer (some ⟨b, 0, none⟩)]]
  have hb1 : Below W.heap.size W (W.alloc (.cells #[.func (.func F) #[] #[.pointer (some ⟨b, 0, none⟩)]] 23)) := (Below.refl _ _).alloc (Nat.le_refl _) _
  generalize W.alloc (.cells #[.func (.func F) #[] #[.pointer (some ⟨b, 0, none⟩)]] 23) = W1 at *
  have c1 := (hb1.cell (p := ⟨b, 0, none⟩) hb).trans hc
  refine (unless_any er [(F, #[.pointer (some ⟨b, 0, none⟩)])] [B] rfl W.heap.size 1 (fun w => w = W1) ?_ ?_ ?_ (by simp) W1 rfl).mono ?_
  · rintro i f cs hf w rfl
    rcases i with _ | i
    · simp at hf; obtain ⟨rfl, rfl⟩ := hf; exact bX.cell 0
    · simp at hf
  · rintro i f cs hf B' hB w rfl
    rcases i with _ | i
    · simp at hf hB; obtain ⟨rfl, rfl⟩ := hf; subst hB
      exact hask _ c1
    · simp at hf
  · intro i f cs hf w
    rcases i with _ | i
    · simp at hf; obtain ⟨rfl, rfl⟩ := hf; exact hF b w
    · simp at hf
  · rintro e w' ⟨rfl, rfl⟩
    exact ⟨by simp [List.all], hb1⟩

theorem un1c_any (b : Nat) (f : Int) (W : World) (hb : b < W.heap.size) (hc : W.cell? ⟨b, 0, none⟩ = some (.int .i64 f)) :
    Calls Try.prog 19 #[.int .i64 19, .slice (some ⟨W.heap.size, 0, none⟩) 1 1] (W.alloc (.cells #[.func (.func 23) #[] #[.pointer (some ⟨b, 0, none⟩)]] 23)) fun e w' => e = .returned (.int .i64 (if fuelB f then 0 else 19)) ∧ Below W.heap.size W w' :=
  un1_any 19 23 ent3 b (fuelB f) f (fun w' hc => chk3_any b f w' hc) W hb hc
theorem scheck_or (n : Int) (ts : List (List Int)) (f : Int) : orr [if fewB ts && evenB n ts then 0 else 18, if fuelB f then 0 else 19] = scheck n ts f := by
  unfold scheck fewB fuelB
  by_cases h1 : ts.length < 1 ∨ 20 < ts.length
  · rw [if_pos h1, decide_eq_false (by omega)]; rfl
  · rw [if_neg h1, decide_eq_true (by omega)]
    cases evenB n ts
    · rfl
    · by_cases h2 : f < 1 ∨ 10000 < f
      · rw [if_pos h2, decide_eq_false (by omega)]; rfl
      · rw [if_neg h2, decide_eq_true (by omega)]; rfl


end Go.Proofs.Ytlecofghifjmcaa.Suite
