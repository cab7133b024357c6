/-
  Package machine, walked: its small functions.
-/
import Derived.Test.YtodejloonfkkmaaGreatMachSteps
import Derived.Test.YtodejloonfkkmaaGreatArenaG
import Derived.Deep.QuietTactic
import Derived.Laws.EntriesVeiled
set_option linter.unusedVariables false
namespace Go.Proofs.YtodejloonfkkmaaGreat.Mach
open Go.RowKit Mem _root_.Go.Proofs.YtodejloonfkkmaaGreat.Arena _root_.Go.Proofs.YtodejloonfkkmaaGreat.Kinds
attribute [local go_sem ↓] Go.wp_at_zero Go.wp_at_succ

set_option maxRecDepth 100000 in
theorem stop_any (k : Int) (w : World) : Calls Tryz.prog 35 #[.int .i64 k] w fun e w' => e = .returned (.agg #[.int .i64 k, .int .i64 0]) ∧ Below w.heap.size w w' := by
  have b0 := Blk.new w 29 #[.int .i64 0, .int .i64 0]
  go_enter Tryz.func35, Tryz.ntmps35
  go_wp2
  refine bodyPost_ret (v := .agg #[.int .i64 k, .int .i64 0]) (by simp [results, Tryz.results35, go_sem]) rfl ?_
  exact ⟨rfl, (Below.refl _ _).alloc (Nat.le_refl _) _⟩
set_option maxRecDepth 100000 in
theorem result_any (k : Int) (w : World) : Calls Tryz.prog 116 #[.int .i64 k] w fun e w' => e = .returned (.agg #[.int .i64 0, .int .i64 k]) ∧ Below w.heap.size w w' := by
  have b0 := Blk.new w 29 #[.int .i64 0, .int .i64 0]
  go_enter Tryz.func116, Tryz.ntmps116
  go_wp2
  refine bodyPost_ret (v := .agg #[.int .i64 0, .int .i64 k]) (by simp [results, Tryz.results116, go_sem]) rfl ?_
  exact ⟨rfl, (Below.refl _ _).alloc (Nat.le_refl _) _⟩
set_option maxRecDepth 100000 in
theorem outside_any (A : Option Addr) (n c : Nat) (i : Int) (w : World) : Calls Tryz.prog 109 #[.slice A n c, .int .i64 i] w fun e w' => e = .returned (.bool (decide (i < 0 ∨ (n : Int) ≤ i))) ∧ w' = w := by
  by_cases h1 : i < 0
  · have d1 : decide (i < 0) = true := decide_eq_true h1
    have hE := Lib.hid (show decide (i < 0 ∨ (n : Int) ≤ i) = true from decide_eq_true (.inl h1))
    clear h1
    go_enter Tryz.func109, Tryz.ntmps109
    go_wp2
    go_ret
    exact ⟨by rw [hE.out]; rfl, rfl⟩
  have d1 : decide (i < 0) = false := decide_eq_false h1
  by_cases h2 : (n : Int) ≤ i
  · have d2 : decide ((n : Int) ≤ i) = true := decide_eq_true h2
    have hE := Lib.hid (show decide (i < 0 ∨ (n : Int) ≤ i) = true from decide_eq_true (.inr h2))
    clear h1 h2
    go_enter Tryz.func109, Tryz.ntmps109
    go_wp2
    go_ret
    exact ⟨by rw [hE.out]; rfl, rfl⟩
  · have d2 : decide ((n : Int) ≤ i) = false := decide_eq_false h2
    have hE := Lib.hid (show decide (i < 0 ∨ (n : Int) ≤ i) = false from decide_eq_false (by omega))
    clear h1 h2
    go_enter Tryz.func109, Tryz.ntmps109
    go_wp2
    go_ret
    exact ⟨by rw [hE.out]; rfl, rfl⟩
theorem owed_is {t n : Int} (h0 : 0 ≤ ar (t, n)) : ((owedN (t, n) : Nat) : Int) = if t = 18 ∨ t = 19 ∨ t = 23 ∨ t = 24 then 1 else ar (t, n) := by
  unfold owedN
  simp only
  split
  · rfl
  · omega
set_option maxRecDepth 100000 in
set_option maxHeartbeats 1000000 in
theorem owed_any (t n : Int) (h0 : 0 ≤ ar (t, n)) (w : World) : Calls Tryz.prog 80 #[.agg #[.int .i64 t, .int .i64 n]] w fun e w' => e = .returned (.int .i64 (owedN (t, n) : Nat)) ∧ Below w.heap.size w w' := by
  have hB : Below w.heap.size w (w.alloc (.cells #[.int .i64 t, .int .i64 n] 47)) := (Below.refl _ _).alloc (Nat.le_refl _) _
  obtain ⟨b0, b1⟩ := (Blk.new w 47 #[.int .i64 t, .int .i64 n]).two
  have HA := Lib.hid (fun W => Arity_any t n W)
  have HE := Lib.hid (owed_is h0)
  clear h0
  by_cases ht : t = 18 ∨ t = 19 ∨ t = 23 ∨ t = 24
  · have HE' := Lib.hid (HE.out.trans (if_pos ht))
    clear HE
    rcases ht with rfl | rfl | rfl | rfl
    all_goals
      go_enter Tryz.func80, Tryz.ntmps80
      go_wp2
      go_ret
      exact ⟨by rw [HE'.out]; rfl, hB⟩
  · have HE' := Lib.hid (HE.out.trans (if_neg ht))
    clear HE
    have e1 : (t == 18) = false := by simp; omega
    have e2 : (t == 19) = false := by simp; omega
    have e3 : (t == 23) = false := by simp; omega
    have e4 : (t == 24) = false := by simp; omega
    clear ht
    go_enter Tryz.func80, Tryz.ntmps80
    go_wp2_with (go_at_call 52; refine (HA.out _).mono ?_; rintro e w1 ⟨rfl, hb1⟩)
    go_ret
    exact ⟨by rw [HE'.out]; rfl, hB.trans (hb1.mono hB.size)⟩
/-- What a function of two numbers comes to, where nothing is touched. -/
def Two (f : FuncId) (F : Int → Int → Int) : Prop := ∀ (x y : Int) (w : World), Calls Tryz.prog f #[.int .i64 x, .int .i64 y] w fun e w' => e = .returned (.int .i64 (F x y)) ∧ w' = w
def TwoB (f : FuncId) (F : Int → Int → Bool) : Prop := ∀ (x y : Int) (w : World), Calls Tryz.prog f #[.int .i64 x, .int .i64 y] w fun e w' => e = .returned (.bool (F x y)) ∧ w' = w
set_option maxRecDepth 100000 in
theorem two_neg : Two 58 (fun _ y => IntKind.i64.wrap (0 - y)) := by
  intro x y w
  go_enter Tryz.func58, Tryz.ntmps58
  go_wp2
  go_ret
  refine ⟨?_, rfl⟩
  first
    | rfl
    | (rw [IntWalk.i64_left]; rfl)
    | (rw [IntWalk.i64_left, Int.zero_sub]; rfl)
    | (rw [Int.zero_sub])
set_option maxRecDepth 100000 in
theorem two_not : Two 59 (fun _ y => IntKind.i64.wrap (1 - y)) := by
  intro x y w
  go_enter Tryz.func59, Tryz.ntmps59
  go_wp2
  go_ret
  refine ⟨?_, rfl⟩
  first
    | rfl
    | (rw [IntWalk.i64_left]; rfl)
set_option maxRecDepth 100000 in
theorem two_add : Two 60 (fun x y => IntKind.i64.wrap (x + y)) := by
  intro x y w
  go_enter Tryz.func60, Tryz.ntmps60
  go_wp2
  go_ret
  refine ⟨?_, rfl⟩
  first
    | rfl
    | (rw [IntWalk.i64_left]; rfl)
set_option maxRecDepth 100000 in
theorem two_sub : Two 61 (fun x y => IntKind.i64.wrap (x - y)) := by
  intro x y w
  go_enter Tryz.func61, Tryz.ntmps61
  go_wp2
  go_ret
  refine ⟨?_, rfl⟩
  first
    | rfl
    | (rw [IntWalk.i64_left]; rfl)
set_option maxRecDepth 100000 in
theorem two_mul : Two 62 (fun x y => IntKind.i64.wrap (x * y)) := by
  intro x y w
  go_enter Tryz.func62, Tryz.ntmps62
  go_wp2
  go_ret
  refine ⟨?_, rfl⟩
  first
    | rfl
    | (rw [IntWalk.i64_left]; rfl)
def TwoN (f : FuncId) (F : Int → Int → Int) : Prop := ∀ (x y : Int) (w : World), y ≠ 0 → Calls Tryz.prog f #[.int .i64 x, .int .i64 y] w fun e w' => e = .returned (.int .i64 (F x y)) ∧ w' = w
set_option maxRecDepth 100000 in
theorem two_div : TwoN 64 (fun x y => IntKind.i64.wrap (x.tdiv y)) := by
  intro x y w h
  go_enter Tryz.func64, Tryz.ntmps64
  go_wp2
  go_ret
  refine ⟨?_, rfl⟩
  first
    | rfl
    | (rw [IntWalk.i64_left]; rfl)
set_option maxRecDepth 100000 in
theorem two_mod : TwoN 65 (fun x y => x.tmod y) := by
  intro x y w h
  go_enter Tryz.func65, Tryz.ntmps65
  go_wp2
  go_ret
  exact ⟨rfl, rfl⟩
set_option maxRecDepth 100000 in
theorem two_eq : TwoB 67 (fun x y => x == y) := by
  intro x y w
  go_enter Tryz.func67, Tryz.ntmps67
  go_wp2
  go_ret
  exact ⟨rfl, rfl⟩
set_option maxRecDepth 100000 in
theorem two_ne : TwoB 68 (fun x y => x != y) := by
  intro x y w
  go_enter Tryz.func68, Tryz.ntmps68
  go_wp2
  go_ret
  exact ⟨rfl, rfl⟩
set_option maxRecDepth 100000 in
theorem two_lt : TwoB 69 (fun x y => decide (x < y)) := by
  intro x y w
  go_enter Tryz.func69, Tryz.ntmps69
  go_wp2
  go_ret
  exact ⟨rfl, rfl⟩
set_option maxRecDepth 100000 in
theorem two_le : TwoB 70 (fun x y => decide (x ≤ y)) := by
  intro x y w
  go_enter Tryz.func70, Tryz.ntmps70
  go_wp2
  go_ret
  exact ⟨rfl, rfl⟩
set_option maxRecDepth 100000 in
theorem two_gt : TwoB 71 (fun x y => decide (y < x)) := by
  intro x y w
  go_enter Tryz.func71, Tryz.ntmps71
  go_wp2
  go_ret
  exact ⟨rfl, rfl⟩
set_option maxRecDepth 100000 in
theorem two_ge : TwoB 72 (fun x y => decide (y ≤ x)) := by
  intro x y w
  go_enter Tryz.func72, Tryz.ntmps72
  go_wp2
  go_ret
  exact ⟨rfl, rfl⟩
set_option maxRecDepth 100000 in
/-- What compares, asked: 1 or 0. -/
theorem compared_any {q : FuncId} {F : Int → Int → Bool} (hF : TwoB q F) (hq : ∀ (x y : Int) (w : World), (callFunc q #[.int .i64 x, .int .i64 y]).run Tryz.prog w = .ok (.enter q #[.int .i64 x, .int .i64 y]) w) (b : Nat) (x y : Int) (w : World) (hb : w.cell? ⟨b, 0, none⟩ = some (.func (.func q) #[] #[])) :
    Calls Tryz.prog 112 #[.int .i64 x, .int .i64 y, .pointer (some ⟨b, 0, none⟩)] w fun e w' => e = .returned (.int .i64 (if F x y = true then 1 else 0)) ∧ w' = w := by
  have HC := Lib.hid (hF x y w)
  have hq := hq x y w
  clear hF
  cases hv : F x y
  all_goals
    rw [hv] at HC
    go_enter Tryz.func112, Tryz.ntmps112
    go_wp2_with (refine HC.out.mono ?_; rintro e w1 ⟨rfl, rfl⟩)
    go_ret
    exact ⟨rfl, rfl⟩
end Go.Proofs.YtodejloonfkkmaaGreat.Mach
