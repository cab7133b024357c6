/-
  Package kinds, walked: its small functions.
-/
import Derived.Test.YteknfglfbkknaaaKindsRefA
import Derived.Test.YteknfglfbkknaaaArenaPDepth
import Derived.Test.YteknfglfbkknaaaArenaTog
namespace Go.Proofs.Yteknfglfbkknaaa.Kinds
open Go.RowKit Mem _root_.Go.Proofs.Yteknfglfbkknaaa.Arena
set_option linter.unusedVariables false

set_option maxRecDepth 100000 in
theorem Size_any (t : Int) (w : World) : Calls Try.prog 16 #[.int .i64 t] w fun e w' => e = .returned (.int .i64 (asz t)) ∧ w' = w := by
  by_cases h1 : t < 2
  · have hE := Lib.hid (show asz t = 0 by unfold asz; rw [if_pos (.inl h1)])
    go_enter Try.func16, Try.ntmps16
    go_wp2
    go_ret
    exact ⟨by rw [hE.out]; rfl, rfl⟩
  by_cases h2 : 9 < t
  · have hE := Lib.hid (show asz t = 0 by unfold asz; rw [if_pos (.inr h2)])
    go_enter Try.func16, Try.ntmps16
    go_wp2
    go_ret
    exact ⟨by rw [hE.out]; rfl, rfl⟩
  have hE := Lib.hid (show asz t = t - 1 by unfold asz; rw [if_neg (by omega)])
  have v1 : IntKind.i64.wrap (t - 1) = t - 1 := IntWalk.i64_in _ (by omega)
  go_enter Try.func16, Try.ntmps16
  go_wp2
  go_ret
  exact ⟨by rw [hE.out]; rfl, rfl⟩

set_option maxRecDepth 100000 in
theorem typeOf_any (A : Option Addr) (c : Nat) (vs : List Int) (v : Int) (w : World) (hx : IRow w w.heap.size A vs) (hl : vs.length ≤ 1000000) :
    Calls Try.prog 39 #[.slice A vs.length c, .int .i64 v] w fun e w' => e = .returned (.int .i64 (vtyp vs v)) ∧ w' = w := by
  have HX := Lib.hid hx
  clear hx
  by_cases h1 : v < 0
  · have hE := Lib.hid (show vtyp vs v = -1 by unfold vtyp; rw [if_pos h1])
    go_enter Try.func39, Try.ntmps39
    go_wp2
    go_ret
    exact ⟨by rw [hE.out]; rfl, rfl⟩
  obtain ⟨k, rfl⟩ := Int.eq_ofNat_of_zero_le (show 0 ≤ v by omega)
  by_cases h2 : vs.length ≤ k
  · have hE := Lib.hid (show vtyp vs k = -1 by unfold vtyp; rw [if_neg h1, Int.toNat_natCast, List.getD_eq_getElem?_getD, List.getElem?_eq_none h2]; rfl)
    have i1 : (vs.length : Int) ≤ (k : Int) := by omega
    go_enter Try.func39, Try.ntmps39
    go_wp2
    go_ret
    exact ⟨by rw [hE.out]; rfl, rfl⟩
  obtain ⟨x, hx⟩ : ∃ x, vs[k]? = some x := ⟨_, List.getElem?_eq_getElem (by omega)⟩
  have hE := Lib.hid (show vtyp vs k = x by unfold vtyp; rw [if_neg h1, Int.toNat_natCast, List.getD_eq_getElem?_getD, hx]; rfl)
  obtain ⟨ad, rfl, hb, g0⟩ := HX.out k x hx
  have i1 : (k : Int) < (vs.length : Int) := by omega
  have i2 : (0 : Int) ≤ (k : Int) := by omega
  clear hx
  go_enter Try.func39, Try.ntmps39
  go_wp2
  go_ret
  exact ⟨by rw [hE.out]; rfl, rfl⟩

def odd (t : Int) : Bool := decide (t < 0 ∨ 9 < t)
set_option maxRecDepth 100000 in
theorem odd_any (t : Int) (w : World) : Calls Try.prog 32 #[.int .i64 t] w fun e w' => e = .returned (.bool (odd t)) ∧ w' = w := by
  by_cases h1 : t < 0
  · have hE := Lib.hid (show odd t = true by unfold odd; rw [decide_eq_true_eq]; omega)
    go_enter Try.func32, Try.ntmps32
    go_wp2
    go_ret
    exact ⟨by rw [hE.out]; rfl, rfl⟩
  · have hE := Lib.hid (show odd t = decide (9 < t) by unfold odd; rw [decide_eq_decide]; omega)
    go_enter Try.func32, Try.ntmps32
    go_wp2
    go_ret
    exact ⟨by rw [hE.out]; simp, rfl⟩

def nonum (t : Int) : Bool := t != 0
set_option maxRecDepth 100000 in
theorem nonum_any (t : Int) (w : World) : Calls Try.prog 33 #[.int .i64 t] w fun e w' => e = .returned (.bool (nonum t)) ∧ w' = w := by
  have hE := Lib.hid (show nonum t = (t != 0) from rfl)
  go_enter Try.func33, Try.ntmps33
  go_wp2
  go_ret
  exact ⟨by rw [hE.out]; rfl, rfl⟩

set_option maxRecDepth 100000 in
theorem single_any (t : Int) (w : World) : Calls Try.prog 60 #[.int .i64 t] w fun e w' => e = .returned (.bool (decide (t = 0 ∨ t = 1))) ∧ w' = w := by
  obtain ⟨b, hb⟩ : ∃ b, decide (t = 0 ∨ t = 1) = b := ⟨_, rfl⟩
  rw [hb]
  by_cases h1 : t = 0
  · have hE := Lib.hid (show b = true by rw [← hb, decide_eq_true_eq]; omega)
    subst h1
    clear hb
    go_enter Try.func60, Try.ntmps60
    go_wp2
    go_ret
    exact ⟨by rw [hE.out]; rfl, rfl⟩
  · have hE := Lib.hid (show b = (t == 1) by rw [← hb, Bool.eq_iff_iff, decide_eq_true_eq, beq_iff_eq]; omega)
    have e1 : (t == 0) = false := by simpa using h1
    clear hb
    go_enter Try.func60, Try.ntmps60
    go_wp2
    go_ret
    exact ⟨by rw [hE.out]; rfl, rfl⟩

def isblk (x : Nd) : Bool := decide (x.1 = 20 ∧ x.2 = 2)
set_option maxRecDepth 100000 in
theorem isBlock_any (x : Nd) (w : World) : Calls Try.prog 29 #[.agg #[.int .i64 x.1, .int .i64 x.2]] w fun e w' => e = .returned (.bool (isblk x)) ∧ Below w.heap.size w w' := by
  obtain ⟨t, k⟩ := x
  simp only
  have hB0 : Below w.heap.size w (w.alloc (.cells #[.int .i64 t, .int .i64 k] 47)) := (Below.refl _ _).alloc (Nat.le_refl _) _
  obtain ⟨b0, b1⟩ := (Blk.new w 47 #[.int .i64 t, .int .i64 k]).two
  obtain ⟨b, hb⟩ : ∃ b, isblk (t, k) = b := ⟨_, rfl⟩
  rw [hb]
  by_cases h1 : t = 20
  · have hE := Lib.hid (show b = (k == 2) by rw [← hb]; unfold isblk; rw [Bool.eq_iff_iff, decide_eq_true_eq, beq_iff_eq]; omega)
    subst h1
    clear hb
    go_enter Try.func29, Try.ntmps29
    go_wp2
    go_ret
    exact ⟨by rw [hE.out]; rfl, hB0⟩
  · have hE := Lib.hid (show b = false by rw [← hb]; unfold isblk; rw [decide_eq_false_iff_not]; omega)
    have e1 : (t == 20) = false := by simpa using h1
    clear hb
    go_enter Try.func29, Try.ntmps29
    go_wp2
    go_ret
    exact ⟨by rw [hE.out]; rfl, hB0⟩

def other (q : Int) (x : Nd) : Bool := x.2 != q
set_option maxRecDepth 100000 in
theorem all1_any (x : Nd) (q : Int) (g : Addr) (w : World) (hg : g.block < w.heap.size) (hc : w.cell? g = some (.int .i64 q)) : Calls Try.prog 63 #[.agg #[.int .i64 x.1, .int .i64 x.2], .pointer (some g)] w fun e w' => e = .returned (.bool (other q x)) ∧ Below w.heap.size w w' := by
  obtain ⟨t, k⟩ := x
  simp only
  have hB0 : Below w.heap.size w (w.alloc (.cells #[.int .i64 t, .int .i64 k] 47)) := (Below.refl _ _).alloc (Nat.le_refl _) _
  obtain ⟨b0, b1⟩ := (Blk.new w 47 #[.int .i64 t, .int .i64 k]).two
  have hc1 := (hB0.cell hg).trans hc
  have hE := Lib.hid (show other q (t, k) = (k != q) from rfl)
  go_enter Try.func63, Try.ntmps63
  go_wp2
  go_ret
  exact ⟨by rw [hE.out]; rfl, hB0⟩
def noblk (x : Nd) : Bool := !(isblk x)
set_option maxRecDepth 100000 in
theorem blocks1_any (x : Nd) (w : World) : Calls Try.prog 64 #[.agg #[.int .i64 x.1, .int .i64 x.2]] w fun e w' => e = .returned (.bool (noblk x)) ∧ Below w.heap.size w w' := by
  obtain ⟨t, k⟩ := x
  simp only
  have hB0 : Below w.heap.size w (w.alloc (.cells #[.int .i64 t, .int .i64 k] 47)) := (Below.refl _ _).alloc (Nat.le_refl _) _
  obtain ⟨b0, b1⟩ := (Blk.new w 47 #[.int .i64 t, .int .i64 k]).two
  have HI := Lib.hid (fun W => show Calls Try.prog 29 #[.agg #[.int .i64 t, .int .i64 k]] W (fun e w' => e = .returned (.bool (isblk (t, k))) ∧ Below W.heap.size W w') from isBlock_any (t, k) W)
  have hE := Lib.hid (show noblk (t, k) = !(isblk (t, k)) from rfl)
  generalize isblk (t, k) = b at *
  go_enter Try.func64, Try.ntmps64
  go_wp2_with (go_at_call 29; refine (HI.out _).mono ?_; rintro e w1 ⟨rfl, hb1⟩)
  go_ret
  exact ⟨by rw [hE.out]; rfl, hB0.trans (hb1.mono hB0.size)⟩

theorem any_snoc {α : Type} (P : α → Bool) (xs : List α) (k : Nat) (x : α) (h : xs[k]? = some x) : (xs.take (k + 1)).any P = ((xs.take k).any P || P x) := by
  rw [List.take_add_one, h]; simp
theorem any_at {α : Type} {P : α → Bool} {xs : List α} {k : Nat} {x : α} (h : xs[k]? = some x) (hx : P x = true) : xs.any P = true :=
  List.any_eq_true.2 ⟨x, List.mem_of_getElem? h, hx⟩

set_option maxRecDepth 100000 in
set_option maxHeartbeats 1000000 in
theorem index_odd (A : Option Addr) (cap : Nat) (xs : List Int) (w : World) (hx : IRow w w.heap.size A xs) (hl : xs.length ≤ 1000000) :
    Calls Try.prog 53 #[.slice A xs.length cap, .func (.func 32) #[] #[]] w fun e w' => (∃ r : Int, e = .returned (.int .i64 r) ∧ decide (0 ≤ r) = xs.any (odd)) ∧ Below w.heap.size w w' := by
  have HX := Lib.hid hx
  have HS := Lib.hid (fun x W => (odd_any x W).mono (fun e w' h => show e = .returned (.bool (odd x)) ∧ Below W.heap.size W w' from ⟨h.1, h.2 ▸ Below.refl _ _⟩))
  clear hx
  go_enter Try.func53, Try.ntmps53
  go_wp2
  go_loopw [8] (fun i wr => ∃ k : Nat, k ≤ xs.length ∧ i = .int .i64 k ∧ (xs.take k).any (odd) = false ∧ Below w.heap.size w wr) (fun i _ => xs.length - (intOf i).toNat)
  case atStart => exact ⟨0, by omega, rfl, rfl, Below.refl _ _⟩
  case round =>
    obtain ⟨k, hk, rfl, hb0, hB⟩ := hrel
    by_cases hlt : k < xs.length
    · obtain ⟨x, hxk⟩ : ∃ x, xs[k]? = some x := ⟨_, List.getElem?_eq_getElem hlt⟩
      obtain ⟨ad, rfl, hbk, h0'⟩ := (HX.out.below hB) k x hxk
      have hsn := any_snoc (odd) xs k x hxk
      have j1 : (k : Int) < (xs.length : Int) := by omega
      have j2 : (0 : Int) ≤ (k : Int) := by omega
      have HB0 := Lib.hid hb0
      cases hbad : (odd) x with
      | true =>
        have HT := Lib.hid (any_at (P := odd) hxk hbad)
        have HH := Lib.hid hbad
        clear hsn hb0 hxk hbad
        go_wp2_with (go_at_call 32; refine (HS.out x _).mono ?_; rintro e w2 ⟨rfl, hb2⟩; rw [HH.out])
        go_ret
        exact ⟨⟨_, rfl, by rw [HT.out]; simp⟩, hB.trans (hb2.mono hB.size)⟩
      | false =>
        rw [hb0, hbad] at hsn
        have HSN := Lib.hid hsn
        have HH := Lib.hid hbad
        clear hsn hb0 hxk hbad
        go_wp2_with (go_at_call 32; refine (HS.out x _).mono ?_; rintro e w2 ⟨rfl, hb2⟩; rw [HH.out])
        go_roundw
        case rel => exact ⟨k + 1, by omega, by go_num, HSN.out, hB.trans (hb2.mono hB.size)⟩
        case measure => simp [intOf]; omega
    · have hk9 : k = xs.length := by omega
      subst hk9
      rw [List.take_length] at hb0
      have HB0 := Lib.hid hb0
      have j1 : ¬ (xs.length : Int) < (xs.length : Int) := by omega
      clear hb0
      go_wp2
      go_ret
      exact ⟨⟨_, rfl, by rw [HB0.out]; rfl⟩, hB⟩
set_option maxRecDepth 100000 in
theorem contains_odd (A : Option Addr) (cap : Nat) (xs : List Int) (w : World) (hx : IRow w w.heap.size A xs) (hl : xs.length ≤ 1000000) :
    Calls Try.prog 31 #[.slice A xs.length cap, .func (.func 32) #[] #[]] w fun e w' => e = .returned (.bool (xs.any (odd))) ∧ Below w.heap.size w w' := by
  have HI := Lib.hid (index_odd A cap xs w hx hl)
  clear hx
  go_enter Try.func31, Try.ntmps31
  go_wp2_with (go_at_call 53; refine HI.out.mono ?_; rintro e w1 ⟨⟨r, rfl, hr⟩, hb1⟩)
  go_ret
  exact ⟨by rw [← hr]; rfl, hb1⟩

set_option maxRecDepth 100000 in
set_option maxHeartbeats 1000000 in
theorem index_nonum (A : Option Addr) (cap : Nat) (xs : List Int) (w : World) (hx : IRow w w.heap.size A xs) (hl : xs.length ≤ 1000000) :
    Calls Try.prog 53 #[.slice A xs.length cap, .func (.func 33) #[] #[]] w fun e w' => (∃ r : Int, e = .returned (.int .i64 r) ∧ decide (0 ≤ r) = xs.any (nonum)) ∧ Below w.heap.size w w' := by
  have HX := Lib.hid hx
  have HS := Lib.hid (fun x W => (nonum_any x W).mono (fun e w' h => show e = .returned (.bool (nonum x)) ∧ Below W.heap.size W w' from ⟨h.1, h.2 ▸ Below.refl _ _⟩))
  clear hx
  go_enter Try.func53, Try.ntmps53
  go_wp2
  go_loopw [8] (fun i wr => ∃ k : Nat, k ≤ xs.length ∧ i = .int .i64 k ∧ (xs.take k).any (nonum) = false ∧ Below w.heap.size w wr) (fun i _ => xs.length - (intOf i).toNat)
  case atStart => exact ⟨0, by omega, rfl, rfl, Below.refl _ _⟩
  case round =>
    obtain ⟨k, hk, rfl, hb0, hB⟩ := hrel
    by_cases hlt : k < xs.length
    · obtain ⟨x, hxk⟩ : ∃ x, xs[k]? = some x := ⟨_, List.getElem?_eq_getElem hlt⟩
      obtain ⟨ad, rfl, hbk, h0'⟩ := (HX.out.below hB) k x hxk
      have hsn := any_snoc (nonum) xs k x hxk
      have j1 : (k : Int) < (xs.length : Int) := by omega
      have j2 : (0 : Int) ≤ (k : Int) := by omega
      have HB0 := Lib.hid hb0
      cases hbad : (nonum) x with
      | true =>
        have HT := Lib.hid (any_at (P := nonum) hxk hbad)
        have HH := Lib.hid hbad
        clear hsn hb0 hxk hbad
        go_wp2_with (go_at_call 33; refine (HS.out x _).mono ?_; rintro e w2 ⟨rfl, hb2⟩; rw [HH.out])
        go_ret
        exact ⟨⟨_, rfl, by rw [HT.out]; simp⟩, hB.trans (hb2.mono hB.size)⟩
      | false =>
        rw [hb0, hbad] at hsn
        have HSN := Lib.hid hsn
        have HH := Lib.hid hbad
        clear hsn hb0 hxk hbad
        go_wp2_with (go_at_call 33; refine (HS.out x _).mono ?_; rintro e w2 ⟨rfl, hb2⟩; rw [HH.out])
        go_roundw
        case rel => exact ⟨k + 1, by omega, by go_num, HSN.out, hB.trans (hb2.mono hB.size)⟩
        case measure => simp [intOf]; omega
    · have hk9 : k = xs.length := by omega
      subst hk9
      rw [List.take_length] at hb0
      have HB0 := Lib.hid hb0
      have j1 : ¬ (xs.length : Int) < (xs.length : Int) := by omega
      clear hb0
      go_wp2
      go_ret
      exact ⟨⟨_, rfl, by rw [HB0.out]; rfl⟩, hB⟩
set_option maxRecDepth 100000 in
theorem contains_nonum (A : Option Addr) (cap : Nat) (xs : List Int) (w : World) (hx : IRow w w.heap.size A xs) (hl : xs.length ≤ 1000000) :
    Calls Try.prog 31 #[.slice A xs.length cap, .func (.func 33) #[] #[]] w fun e w' => e = .returned (.bool (xs.any (nonum))) ∧ Below w.heap.size w w' := by
  have HI := Lib.hid (index_nonum A cap xs w hx hl)
  clear hx
  go_enter Try.func31, Try.ntmps31
  go_wp2_with (go_at_call 53; refine HI.out.mono ?_; rintro e w1 ⟨⟨r, rfl, hr⟩, hb1⟩)
  go_ret
  exact ⟨by rw [← hr]; rfl, hb1⟩

set_option maxRecDepth 100000 in
set_option maxHeartbeats 1000000 in
theorem index_blocks (A : Option Addr) (cap : Nat) (xs : List Nd) (w : World) (hx : Nodes w w.heap.size A xs) (hl : xs.length ≤ 1000000) :
    Calls Try.prog 65 #[.slice A xs.length cap, .func (.func 64) #[] #[]] w fun e w' => (∃ r : Int, e = .returned (.int .i64 r) ∧ decide (0 ≤ r) = xs.any (noblk)) ∧ Below w.heap.size w w' := by
  have HX := Lib.hid hx
  have HS := Lib.hid (fun x W => blocks1_any x W)
  clear hx
  go_enter Try.func65, Try.ntmps65
  go_wp2
  go_loopw [8] (fun i wr => ∃ k : Nat, k ≤ xs.length ∧ i = .int .i64 k ∧ (xs.take k).any (noblk) = false ∧ Below w.heap.size w wr) (fun i _ => xs.length - (intOf i).toNat)
  case atStart => exact ⟨0, by omega, rfl, rfl, Below.refl _ _⟩
  case round =>
    obtain ⟨k, hk, rfl, hb0, hB⟩ := hrel
    by_cases hlt : k < xs.length
    · obtain ⟨x, hxk⟩ : ∃ x, xs[k]? = some x := ⟨_, List.getElem?_eq_getElem hlt⟩
      obtain ⟨ad, rfl, hbk, h0', h1'⟩ := (HX.out.below hB) k x hxk
      have hsn := any_snoc (noblk) xs k x hxk
      have j1 : (k : Int) < (xs.length : Int) := by omega
      have j2 : (0 : Int) ≤ (k : Int) := by omega
      have HB0 := Lib.hid hb0
      cases hbad : (noblk) x with
      | true =>
        have HT := Lib.hid (any_at (P := noblk) hxk hbad)
        have HH := Lib.hid hbad
        clear hsn hb0 hxk hbad
        go_wp2_with (go_at_call 64; refine (HS.out x _).mono ?_; rintro e w2 ⟨rfl, hb2⟩; rw [HH.out])
        go_ret
        exact ⟨⟨_, rfl, by rw [HT.out]; simp⟩, hB.trans (hb2.mono hB.size)⟩
      | false =>
        rw [hb0, hbad] at hsn
        have HSN := Lib.hid hsn
        have HH := Lib.hid hbad
        clear hsn hb0 hxk hbad
        go_wp2_with (go_at_call 64; refine (HS.out x _).mono ?_; rintro e w2 ⟨rfl, hb2⟩; rw [HH.out])
        go_roundw
        case rel => exact ⟨k + 1, by omega, by go_num, HSN.out, hB.trans (hb2.mono hB.size)⟩
        case measure => simp [intOf]; omega
    · have hk9 : k = xs.length := by omega
      subst hk9
      rw [List.take_length] at hb0
      have HB0 := Lib.hid hb0
      have j1 : ¬ (xs.length : Int) < (xs.length : Int) := by omega
      clear hb0
      go_wp2
      go_ret
      exact ⟨⟨_, rfl, by rw [HB0.out]; rfl⟩, hB⟩
set_option maxRecDepth 100000 in
theorem contains_blocks (A : Option Addr) (cap : Nat) (xs : List Nd) (w : World) (hx : Nodes w w.heap.size A xs) (hl : xs.length ≤ 1000000) :
    Calls Try.prog 62 #[.slice A xs.length cap, .func (.func 64) #[] #[]] w fun e w' => e = .returned (.bool (xs.any (noblk))) ∧ Below w.heap.size w w' := by
  have HI := Lib.hid (index_blocks A cap xs w hx hl)
  clear hx
  go_enter Try.func62, Try.ntmps62
  go_wp2_with (go_at_call 65; refine HI.out.mono ?_; rintro e w1 ⟨⟨r, rfl, hr⟩, hb1⟩)
  go_ret
  exact ⟨by rw [← hr]; rfl, hb1⟩

set_option maxRecDepth 100000 in
set_option maxHeartbeats 1000000 in
theorem index_all (A : Option Addr) (cap : Nat) (xs : List Nd) (q : Int) (g : Addr) (w : World) (hx : Nodes w w.heap.size A xs) (hg : g.block < w.heap.size) (hc : w.cell? g = some (.int .i64 q)) (hl : xs.length ≤ 1000000) :
    Calls Try.prog 65 #[.slice A xs.length cap, .func (.func 63) #[] #[.pointer (some g)]] w fun e w' => (∃ r : Int, e = .returned (.int .i64 r) ∧ decide (0 ≤ r) = xs.any (other q)) ∧ Below w.heap.size w w' := by
  have HX := Lib.hid hx
  have HS := Lib.hid (fun x W (h1 : g.block < W.heap.size) (h2 : W.cell? g = some (.int .i64 q)) => all1_any x q g W h1 h2)
  clear hx
  go_enter Try.func65, Try.ntmps65
  go_wp2
  go_loopw [8] (fun i wr => ∃ k : Nat, k ≤ xs.length ∧ i = .int .i64 k ∧ (xs.take k).any (other q) = false ∧ Below w.heap.size w wr) (fun i _ => xs.length - (intOf i).toNat)
  case atStart => exact ⟨0, by omega, rfl, rfl, Below.refl _ _⟩
  case round =>
    obtain ⟨k, hk, rfl, hb0, hB⟩ := hrel
    by_cases hlt : k < xs.length
    · obtain ⟨x, hxk⟩ : ∃ x, xs[k]? = some x := ⟨_, List.getElem?_eq_getElem hlt⟩
      obtain ⟨ad, rfl, hbk, h0', h1'⟩ := (HX.out.below hB) k x hxk
      have hsn := any_snoc (other q) xs k x hxk
      have j1 : (k : Int) < (xs.length : Int) := by omega
      have j2 : (0 : Int) ≤ (k : Int) := by omega
      have HB0 := Lib.hid hb0
      cases hbad : (other q) x with
      | true =>
        have HT := Lib.hid (any_at (P := other q) hxk hbad)
        have HH := Lib.hid hbad
        clear hsn hb0 hxk hbad
        go_wp2_with (go_at_call 63; refine (HS.out x _ (Nat.lt_of_lt_of_le hg hB.size) ((hB.cell hg).trans hc)).mono ?_; rintro e w2 ⟨rfl, hb2⟩; rw [HH.out])
        go_ret
        exact ⟨⟨_, rfl, by rw [HT.out]; simp⟩, hB.trans (hb2.mono hB.size)⟩
      | false =>
        rw [hb0, hbad] at hsn
        have HSN := Lib.hid hsn
        have HH := Lib.hid hbad
        clear hsn hb0 hxk hbad
        go_wp2_with (go_at_call 63; refine (HS.out x _ (Nat.lt_of_lt_of_le hg hB.size) ((hB.cell hg).trans hc)).mono ?_; rintro e w2 ⟨rfl, hb2⟩; rw [HH.out])
        go_roundw
        case rel => exact ⟨k + 1, by omega, by go_num, HSN.out, hB.trans (hb2.mono hB.size)⟩
        case measure => simp [intOf]; omega
    · have hk9 : k = xs.length := by omega
      subst hk9
      rw [List.take_length] at hb0
      have HB0 := Lib.hid hb0
      have j1 : ¬ (xs.length : Int) < (xs.length : Int) := by omega
      clear hb0
      go_wp2
      go_ret
      exact ⟨⟨_, rfl, by rw [HB0.out]; rfl⟩, hB⟩
set_option maxRecDepth 100000 in
theorem contains_all (A : Option Addr) (cap : Nat) (xs : List Nd) (q : Int) (g : Addr) (w : World) (hx : Nodes w w.heap.size A xs) (hg : g.block < w.heap.size) (hc : w.cell? g = some (.int .i64 q)) (hl : xs.length ≤ 1000000) :
    Calls Try.prog 62 #[.slice A xs.length cap, .func (.func 63) #[] #[.pointer (some g)]] w fun e w' => e = .returned (.bool (xs.any (other q))) ∧ Below w.heap.size w w' := by
  have HI := Lib.hid (index_all A cap xs q g w hx hg hc hl)
  clear hx
  go_enter Try.func62, Try.ntmps62
  go_wp2_with (go_at_call 65; refine HI.out.mono ?_; rintro e w1 ⟨⟨r, rfl, hr⟩, hb1⟩)
  go_ret
  exact ⟨by rw [← hr]; rfl, hb1⟩

set_option maxRecDepth 100000 in
theorem all_any (A : Option Addr) (cap : Nat) (xs : List Nd) (q : Int) (w : World) (hx : Nodes w w.heap.size A xs) (hl : xs.length ≤ 1000000) :
    Calls Try.prog 59 #[.slice A xs.length cap, .int .i64 q] w fun e w' => e = .returned (.bool (xs.all fun x => x.2 == q)) ∧ Below w.heap.size w w' := by
  have hB0 : Below w.heap.size w (w.alloc (.cells #[.int .i64 q] 3)) := (Below.refl _ _).alloc (Nat.le_refl _) _
  have b := Blk.new w 3 #[.int .i64 q]
  have hg := b.lt
  have hc : (w.alloc (.cells #[.int .i64 q] 3)).cell? ⟨w.heap.size, 0, none⟩ = some (.int .i64 q) := b.cell 0
  have HI := Lib.hid (contains_all A cap xs q ⟨w.heap.size, 0, none⟩ (w.alloc (.cells #[.int .i64 q] 3)) (hx.at hB0) hg hc hl)
  have hE := Lib.hid (show (xs.all fun x => x.2 == q) = !(xs.any (other q)) by rw [List.not_any_eq_all_not]; congr 1; funext x; simp [other, bne])
  generalize xs.any (other q) = y at *
  clear hx b
  go_enter Try.func59, Try.ntmps59
  go_wp2_with (go_at_call 62; refine HI.out.mono ?_; rintro e w1 ⟨rfl, hb1⟩)
  go_ret
  exact ⟨by rw [hE.out]; rfl, hB0.trans (hb1.mono hB0.size)⟩
set_option maxRecDepth 100000 in
theorem blocks_any (A : Option Addr) (cap : Nat) (xs : List Nd) (w : World) (hx : Nodes w w.heap.size A xs) (hl : xs.length ≤ 1000000) :
    Calls Try.prog 61 #[.slice A xs.length cap] w fun e w' => e = .returned (.bool (xs.all isblk)) ∧ Below w.heap.size w w' := by
  have HI := Lib.hid (contains_blocks A cap xs w hx hl)
  have hE := Lib.hid (show xs.all isblk = !(xs.any noblk) by rw [List.not_any_eq_all_not]; congr 1; funext x; simp [noblk])
  generalize xs.any noblk = y at *
  clear hx
  go_enter Try.func61, Try.ntmps61
  go_wp2_with (go_at_call 62; refine HI.out.mono ?_; rintro e w1 ⟨rfl, hb1⟩)
  go_ret
  exact ⟨by rw [hE.out]; rfl, hb1⟩

end Go.Proofs.Yteknfglfbkknaaa.Kinds
