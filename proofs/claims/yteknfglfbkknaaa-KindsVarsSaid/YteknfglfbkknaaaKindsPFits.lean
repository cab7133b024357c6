/-
  Package kinds, walked: whether kids fit a way, a way at a time.
-/
import Derived.Test.YteknfglfbkknaaaKindsPWays
namespace Go.Proofs.Yteknfglfbkknaaa.Kinds
open Go.RowKit Mem _root_.Go.Proofs.Yteknfglfbkknaaa.Arena
set_option linter.unusedVariables false

set_option maxRecDepth 100000 in
set_option maxHeartbeats 1000000 in
theorem fits_alike (k g : Int) (t : Int) (A : Option Addr) (cap : Nat) (xs : List Nd) (w : World) (hx : Nodes w w.heap.size A xs) (hl : xs.length ≤ 1000000) :
    Calls Try.prog 56 #[(.iface 70 (.agg #[.int .i64 k, .int .i64 g])), .int .i64 t, .slice A xs.length cap] w fun e w' => e = .returned (.bool (xs.all fun x => x.2 == k)) ∧ Below w.heap.size w w' := by
  have hB0 : Below w.heap.size w (w.alloc (.cells #[.int .i64 k, .int .i64 g] 70)) := (Below.refl _ _).alloc (Nat.le_refl _) _
  obtain ⟨b0, b1⟩ := (Blk.new w 70 #[.int .i64 k, .int .i64 g]).two
  have HA := Lib.hid (all_any A cap xs k _ (hx.at hB0) hl)
  clear hx
  generalize (xs.all fun x => x.2 == k) = y at *
  have ta0 : ∀ W, (Instr.typeAssert (.iface 70 (.agg #[.int .i64 k, .int .i64 g])) 56 70 true).run Try.prog W = .ok (.tuple #[.agg #[.int .i64 k, .int .i64 g], .bool true]) W := fun W => by kernel_rfl
  go_enter Try.func56, Try.ntmps56
  go_wp2_with (go_at_call 59; refine HA.out.mono ?_; rintro e w1 ⟨rfl, hb1⟩)
  go_ret
  exact ⟨rfl, hB0.trans (hb1.mono hB0.size)⟩

set_option maxRecDepth 100000 in
set_option maxHeartbeats 1000000 in
theorem fits_element (g : Int) (t : Int) (A : Option Addr) (cap : Nat) (xs : List Nd) (w : World) (hx : Nodes w w.heap.size A xs) (hl : xs.length ≤ 1000000) :
    Calls Try.prog 56 #[(.iface 74 (.agg #[.int .i64 g])), .int .i64 t, .slice A xs.length cap] w fun e w' => e = .returned (.bool (decide (0 < asz t) && (xs.all fun x => x.2 == 0))) ∧ Below w.heap.size w w' := by
  have hB0 : Below w.heap.size w (w.alloc (.cells #[.int .i64 g] 74)) := (Below.refl _ _).alloc (Nat.le_refl _) _
  have HA := Lib.hid (all_any A cap xs 0 _ (hx.at hB0) hl)
  have HS := Lib.hid (fun W => Size_any t W)
  clear hx
  generalize (xs.all fun x => x.2 == 0) = y at *
  have ta0 : ∀ W, (Instr.typeAssert (.iface 74 (.agg #[.int .i64 g])) 56 70 true).run Try.prog W = .ok (.tuple #[.agg #[.int .i64 0, .int .i64 0], .bool false]) W := fun W => by kernel_rfl
  have ta1 : ∀ W, (Instr.typeAssert (.iface 74 (.agg #[.int .i64 g])) 56 74 true).run Try.prog W = .ok (.tuple #[.agg #[.int .i64 g], .bool true]) W := fun W => by kernel_rfl
  by_cases h : 0 < asz t
  · have hE := Lib.hid (decide_eq_true h)
    generalize asz t = z at *
    go_enter Try.func56, Try.ntmps56
    go_wp2_with (first
      | (go_at_call 16; refine (HS.out _).mono ?_; rintro e w1 ⟨rfl, rfl⟩)
      | (go_at_call 59; refine HA.out.mono ?_; rintro e w2 ⟨rfl, hb1⟩))
    go_ret
    exact ⟨by rw [hE.out]; rfl, hB0.trans (hb1.mono hB0.size)⟩
  · have hE := Lib.hid (decide_eq_false h)
    generalize asz t = z at *
    go_enter Try.func56, Try.ntmps56
    go_wp2_with (first
      | (go_at_call 16; refine (HS.out _).mono ?_; rintro e w1 ⟨rfl, rfl⟩))
    go_ret
    exact ⟨by rw [hE.out]; rfl, hB0⟩

set_option maxRecDepth 100000 in
set_option maxHeartbeats 1000000 in
theorem fits_value (t : Int) (A : Option Addr) (cap : Nat) (xs : List Nd) (w : World) (hx : Nodes w w.heap.size A xs) (hl : xs.length ≤ 1000000) :
    Calls Try.prog 56 #[(.iface 72 (.agg #[])), .int .i64 t, .slice A xs.length cap] w fun e w' => e = .returned (.bool (decide (t = 0 ∨ t = 1))) ∧ Below w.heap.size w w' := by
  have hB0 : Below w.heap.size w (w.alloc (.cells #[] 72)) := (Below.refl _ _).alloc (Nat.le_refl _) _
  have HS := Lib.hid (fun W => single_any t W)
  generalize decide (t = 0 ∨ t = 1) = y at *
  have ta0 : ∀ W, (Instr.typeAssert (.iface 72 (.agg #[])) 56 70 true).run Try.prog W = .ok (.tuple #[.agg #[.int .i64 0, .int .i64 0], .bool false]) W := fun W => by kernel_rfl
  have ta1 : ∀ W, (Instr.typeAssert (.iface 72 (.agg #[])) 56 74 true).run Try.prog W = .ok (.tuple #[.agg #[.int .i64 0], .bool false]) W := fun W => by kernel_rfl
  have ta2 : ∀ W, (Instr.typeAssert (.iface 72 (.agg #[])) 56 72 true).run Try.prog W = .ok (.tuple #[.agg #[], .bool true]) W := fun W => by kernel_rfl
  go_enter Try.func56, Try.ntmps56
  go_wp2_with (go_at_call 60; refine (HS.out _).mono ?_; rintro e w1 ⟨rfl, rfl⟩)
  go_ret
  exact ⟨rfl, hB0⟩

set_option maxRecDepth 100000 in
set_option maxHeartbeats 1000000 in
theorem fits_setting (t : Int) (A : Option Addr) (cap : Nat) (xs : List Nd) (w : World) (hx : Nodes w w.heap.size A xs) (hl : xs.length ≤ 1000000) :
    Calls Try.prog 56 #[(.iface 75 (.agg #[])), .int .i64 t, .slice A xs.length cap] w fun e w' => e = .returned (.bool (decide (t = 0 ∨ t = 1) && (xs.all fun x => x.2 == t))) ∧ Below w.heap.size w w' := by
  have hB0 : Below w.heap.size w (w.alloc (.cells #[] 75)) := (Below.refl _ _).alloc (Nat.le_refl _) _
  have HS := Lib.hid (fun W => single_any t W)
  have HA := Lib.hid (all_any A cap xs t _ (hx.at hB0) hl)
  clear hx
  generalize (xs.all fun x => x.2 == t) = y at *
  have ta0 : ∀ W, (Instr.typeAssert (.iface 75 (.agg #[])) 56 70 true).run Try.prog W = .ok (.tuple #[.agg #[.int .i64 0, .int .i64 0], .bool false]) W := fun W => by kernel_rfl
  have ta1 : ∀ W, (Instr.typeAssert (.iface 75 (.agg #[])) 56 74 true).run Try.prog W = .ok (.tuple #[.agg #[.int .i64 0], .bool false]) W := fun W => by kernel_rfl
  have ta2 : ∀ W, (Instr.typeAssert (.iface 75 (.agg #[])) 56 72 true).run Try.prog W = .ok (.tuple #[.agg #[], .bool false]) W := fun W => by kernel_rfl
  have ta3 : ∀ W, (Instr.typeAssert (.iface 75 (.agg #[])) 56 75 true).run Try.prog W = .ok (.tuple #[.agg #[], .bool true]) W := fun W => by kernel_rfl
  cases hd : decide (t = 0 ∨ t = 1) with
  | true =>
    rw [hd] at HS
    go_enter Try.func56, Try.ntmps56
    go_wp2_with (first
      | (go_at_call 60; refine (HS.out _).mono ?_; rintro e w1 ⟨rfl, rfl⟩)
      | (go_at_call 59; refine HA.out.mono ?_; rintro e w2 ⟨rfl, hb1⟩))
    go_ret
    exact ⟨rfl, hB0.trans (hb1.mono hB0.size)⟩
  | false =>
    rw [hd] at HS
    go_enter Try.func56, Try.ntmps56
    go_wp2_with (first
      | (go_at_call 60; refine (HS.out _).mono ?_; rintro e w1 ⟨rfl, rfl⟩))
    go_ret
    exact ⟨rfl, hB0⟩

set_option maxRecDepth 100000 in
set_option maxHeartbeats 1000000 in
theorem fits_branching (t : Int) (A : Option Addr) (cap : Nat) (xs : List Nd) (w : World) (hx : Nodes w w.heap.size A xs) (hl : xs.length ≤ 1000000) (hp : 0 < xs.length) (hc : xs.length ≤ cap) :
    Calls Try.prog 56 #[(.iface 76 (.agg #[])), .int .i64 t, .slice A xs.length cap] w fun e w' => e = .returned (.bool ((xs.getD (xs.length - 1) (0, 0)).2 == 1 && (xs.take (xs.length - 1)).all isblk)) ∧ Below w.heap.size w w' := by
  have hB0 : Below w.heap.size w (w.alloc (.cells #[] 76)) := (Below.refl _ _).alloc (Nat.le_refl _) _
  obtain ⟨n, hn⟩ : ∃ n, xs.length = n + 1 := ⟨xs.length - 1, by omega⟩
  obtain ⟨⟨tg, kd⟩, hxn⟩ : ∃ x, xs[n]? = some x := ⟨_, List.getElem?_eq_getElem (by omega)⟩
  have hg : (xs.getD n (0, 0)).2 = kd := by rw [List.getD_eq_getElem?_getD, hxn]; rfl
  have hx1 := hx.at hB0
  obtain ⟨ad, rfl, hbk, h0', h1'⟩ := hx1 n _ hxn
  have hlt : (xs.take n).length = n := by rw [List.length_take]; omega
  have HB := Lib.hid (show Calls Try.prog 61 #[.slice (some ad) n cap] (w.alloc (.cells #[] 76)) (fun e w' => e = .returned (.bool ((xs.take n).all isblk)) ∧ Below (w.alloc (.cells #[] 76)).heap.size (w.alloc (.cells #[] 76)) w') from by
    have q := blocks_any (some ad) cap (xs.take n) (w.alloc (.cells #[] 76)) (fun i x h => hx1 i x (by rw [List.getElem?_take] at h; split at h; exact h; cases h)) (by omega)
    rw [hlt] at q
    exact q)
  rw [hn, show n + 1 - 1 = n from rfl, hg]
  generalize (xs.take n).all isblk = y at *
  have v1 : IntKind.i64.wrap (((n + 1 : Nat) : Int) - 1) = (n : Int) := by rw [IntWalk.i64_in _ (by omega)]; omega
  have i1 : (n : Int) < ((n + 1 : Nat) : Int) := by omega
  have i2 : (0 : Int) ≤ (n : Int) := by omega
  have i3 : (n : Int) ≤ (cap : Int) := by omega
  clear hx hx1 hg hxn hlt
  have ta0 : ∀ W, (Instr.typeAssert (.iface 76 (.agg #[])) 56 70 true).run Try.prog W = .ok (.tuple #[.agg #[.int .i64 0, .int .i64 0], .bool false]) W := fun W => by kernel_rfl
  have ta1 : ∀ W, (Instr.typeAssert (.iface 76 (.agg #[])) 56 74 true).run Try.prog W = .ok (.tuple #[.agg #[.int .i64 0], .bool false]) W := fun W => by kernel_rfl
  have ta2 : ∀ W, (Instr.typeAssert (.iface 76 (.agg #[])) 56 72 true).run Try.prog W = .ok (.tuple #[.agg #[], .bool false]) W := fun W => by kernel_rfl
  have ta3 : ∀ W, (Instr.typeAssert (.iface 76 (.agg #[])) 56 75 true).run Try.prog W = .ok (.tuple #[.agg #[], .bool false]) W := fun W => by kernel_rfl
  have ta4 : ∀ W, (Instr.typeAssert (.iface 76 (.agg #[])) 56 76 true).run Try.prog W = .ok (.tuple #[.agg #[], .bool true]) W := fun W => by kernel_rfl
  by_cases h : kd = 1
  · subst h
    go_enter Try.func56, Try.ntmps56
    go_wp2_with (go_at_call 61; refine HB.out.mono ?_; rintro e w2 ⟨rfl, hb1⟩)
    go_ret
    exact ⟨rfl, hB0.trans (hb1.mono hB0.size)⟩
  · have e1 : (kd == 1) = false := by simpa using h
    have hE := Lib.hid e1
    go_enter Try.func56, Try.ntmps56
    go_wp2_with fail
    go_ret
    exact ⟨by first | rfl | (rw [hE.out]; rfl), hB0⟩

end Go.Proofs.Yteknfglfbkknaaa.Kinds
