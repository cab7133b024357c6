/-
  Package kinds, walked: the kind of a node of a way.
-/
import Derived.Test.YteknfglfbkknaaaKindsPFits
namespace Go.Proofs.Yteknfglfbkknaaa.Kinds
open Go.RowKit Mem _root_.Go.Proofs.Yteknfglfbkknaaa.Arena
set_option linter.unusedVariables false

inductive Way where
  | alike (k g : Int)
  | elem (g : Int)
  | value
  | setting
  | branching
def Way.val : Way → Value
  | .alike k g => .iface 70 (.agg #[.int .i64 k, .int .i64 g])
  | .elem g => .iface 74 (.agg #[.int .i64 g])
  | .value => .iface 72 (.agg #[])
  | .setting => .iface 75 (.agg #[])
  | .branching => .iface 76 (.agg #[])
def Way.fits : Way → Int → List Nd → Bool
  | .alike k g, _, xs => xs.all fun x => x.2 == k
  | .elem g, t, xs => decide (0 < asz t) && (xs.all fun x => x.2 == 0)
  | .value, t, _ => decide (t = 0 ∨ t = 1)
  | .setting, t, xs => decide (t = 0 ∨ t = 1) && (xs.all fun x => x.2 == t)
  | .branching, _, xs => (xs.getD (xs.length - 1) (0, 0)).2 == 1 && (xs.take (xs.length - 1)).all isblk
def Way.gives : Way → Int → Int
  | .alike k g, _ => g
  | .elem g, _ => g
  | .value, t => t
  | .setting, _ => 2
  | .branching, _ => 2
def Way.branches : Way → Prop
  | .branching => True
  | _ => False

theorem fits_any (W : Way) (t : Int) (A : Option Addr) (cap : Nat) (xs : List Nd) (w : World) (hx : Nodes w w.heap.size A xs) (hl : xs.length ≤ 1000000) (hp : W.branches → 0 < xs.length) (hc : xs.length ≤ cap) :
    Calls Try.prog 56 #[W.val, .int .i64 t, .slice A xs.length cap] w fun e w' => e = .returned (.bool (W.fits t xs)) ∧ Below w.heap.size w w' := by
  cases W with
  | alike k g => exact fits_alike k g t A cap xs w hx hl
  | elem g => exact fits_element g t A cap xs w hx hl
  | value => exact fits_value t A cap xs w hx hl
  | setting => exact fits_setting t A cap xs w hx hl
  | branching => exact fits_branching t A cap xs w hx hl (hp trivial) hc

set_option maxRecDepth 100000 in
theorem kind_alike (k g : Int) (t : Int) (w : World) : Calls Try.prog 82 #[.agg #[.int .i64 k, .int .i64 g], .int .i64 t] w fun e w' => e = .returned (.int .i64 (g)) ∧ Below w.heap.size w w' := by
  have hB0 : Below w.heap.size w (w.alloc (.cells #[.int .i64 k, .int .i64 g] 70)) := (Below.refl _ _).alloc (Nat.le_refl _) _
  obtain ⟨b0, b1⟩ := (Blk.new w 70 #[.int .i64 k, .int .i64 g]).two
  go_enter Try.func82, Try.ntmps82
  go_wp2
  go_ret
  exact ⟨rfl, hB0⟩
set_option maxRecDepth 100000 in
set_option maxHeartbeats 1000000 in
theorem made_alike (k g : Int) (t : Int) (A : Option Addr) (cap : Nat) (xs : List Nd) (w : World) (hx : Nodes w w.heap.size A xs) (hl : xs.length ≤ 1000000) (hp : (Way.alike k g).branches → 0 < xs.length) (hc : xs.length ≤ cap) :
    Calls Try.prog 38 #[(Way.alike k g).val, .int .i64 t, .slice A xs.length cap] w fun e w' => e = .returned (.int .i64 (if (Way.alike k g).fits t xs then (Way.alike k g).gives t else -1)) ∧ Below w.heap.size w w' := by
  have HF := Lib.hid (fits_any (.alike k g) t A cap xs w hx hl hp hc)
  have HK := Lib.hid (fun W => kind_alike k g t W)
  clear hx
  generalize (Way.alike k g).fits t xs = y at *
  unfold Way.val at *
  have hm : ∀ n W, (method (n + 1) 70 (.agg #[.int .i64 k, .int .i64 g]) "offshoot/kinds.kind").run Try.prog W = .ok (82, .agg #[.int .i64 k, .int .i64 g]) W := fun n W => by kernel_rfl
  cases y with
  | false =>
    go_enter Try.func38, Try.ntmps38
    go_wp2_with (go_at_call 56; refine HF.out.mono ?_; rintro e w1 ⟨rfl, hb1⟩)
    go_ret
    exact ⟨rfl, hb1⟩
  | true =>
    go_enter Try.func38, Try.ntmps38
    go_wp2_with (first
      | (go_at_call 56; refine HF.out.mono ?_; rintro e w1 ⟨rfl, hb1⟩)
      | (go_at_call 82; refine (HK.out _).mono ?_; rintro e w2 ⟨rfl, hb2⟩))
    go_ret
    exact ⟨rfl, hb1.trans (hb2.mono hb1.size)⟩

set_option maxRecDepth 100000 in
theorem kind_elem (g : Int) (t : Int) (w : World) : Calls Try.prog 84 #[.agg #[.int .i64 g], .int .i64 t] w fun e w' => e = .returned (.int .i64 (g)) ∧ Below w.heap.size w w' := by
  have hB0 : Below w.heap.size w (w.alloc (.cells #[.int .i64 g] 74)) := (Below.refl _ _).alloc (Nat.le_refl _) _
  have b0 : (w.alloc (.cells #[.int .i64 g] 74)).cell? ⟨w.heap.size, 0, none⟩ = some (.int .i64 g) := (Blk.new w 74 #[.int .i64 g]).cell 0
  go_enter Try.func84, Try.ntmps84
  go_wp2
  go_ret
  exact ⟨rfl, hB0⟩
set_option maxRecDepth 100000 in
set_option maxHeartbeats 1000000 in
theorem made_elem (g : Int) (t : Int) (A : Option Addr) (cap : Nat) (xs : List Nd) (w : World) (hx : Nodes w w.heap.size A xs) (hl : xs.length ≤ 1000000) (hp : (Way.elem g).branches → 0 < xs.length) (hc : xs.length ≤ cap) :
    Calls Try.prog 38 #[(Way.elem g).val, .int .i64 t, .slice A xs.length cap] w fun e w' => e = .returned (.int .i64 (if (Way.elem g).fits t xs then (Way.elem g).gives t else -1)) ∧ Below w.heap.size w w' := by
  have HF := Lib.hid (fits_any (.elem g) t A cap xs w hx hl hp hc)
  have HK := Lib.hid (fun W => kind_elem g t W)
  clear hx
  generalize (Way.elem g).fits t xs = y at *
  unfold Way.val at *
  have hm : ∀ n W, (method (n + 1) 74 (.agg #[.int .i64 g]) "offshoot/kinds.kind").run Try.prog W = .ok (84, .agg #[.int .i64 g]) W := fun n W => by kernel_rfl
  cases y with
  | false =>
    go_enter Try.func38, Try.ntmps38
    go_wp2_with (go_at_call 56; refine HF.out.mono ?_; rintro e w1 ⟨rfl, hb1⟩)
    go_ret
    exact ⟨rfl, hb1⟩
  | true =>
    go_enter Try.func38, Try.ntmps38
    go_wp2_with (first
      | (go_at_call 56; refine HF.out.mono ?_; rintro e w1 ⟨rfl, hb1⟩)
      | (go_at_call 84; refine (HK.out _).mono ?_; rintro e w2 ⟨rfl, hb2⟩))
    go_ret
    exact ⟨rfl, hb1.trans (hb2.mono hb1.size)⟩

set_option maxRecDepth 100000 in
theorem kind_value (t : Int) (w : World) : Calls Try.prog 83 #[.agg #[], .int .i64 t] w fun e w' => e = .returned (.int .i64 (t)) ∧ Below w.heap.size w w' := by
  have hB0 : Below w.heap.size w (w.alloc (.cells #[] 72)) := (Below.refl _ _).alloc (Nat.le_refl _) _
  go_enter Try.func83, Try.ntmps83
  go_wp2
  go_ret
  exact ⟨rfl, hB0⟩
set_option maxRecDepth 100000 in
set_option maxHeartbeats 1000000 in
theorem made_value (t : Int) (A : Option Addr) (cap : Nat) (xs : List Nd) (w : World) (hx : Nodes w w.heap.size A xs) (hl : xs.length ≤ 1000000) (hp : (Way.value).branches → 0 < xs.length) (hc : xs.length ≤ cap) :
    Calls Try.prog 38 #[(Way.value).val, .int .i64 t, .slice A xs.length cap] w fun e w' => e = .returned (.int .i64 (if (Way.value).fits t xs then (Way.value).gives t else -1)) ∧ Below w.heap.size w w' := by
  have HF := Lib.hid (fits_any (.value) t A cap xs w hx hl hp hc)
  have HK := Lib.hid (fun W => kind_value t W)
  clear hx
  generalize (Way.value).fits t xs = y at *
  unfold Way.val at *
  have hm : ∀ n W, (method (n + 1) 72 (.agg #[]) "offshoot/kinds.kind").run Try.prog W = .ok (83, .agg #[]) W := fun n W => by kernel_rfl
  cases y with
  | false =>
    go_enter Try.func38, Try.ntmps38
    go_wp2_with (go_at_call 56; refine HF.out.mono ?_; rintro e w1 ⟨rfl, hb1⟩)
    go_ret
    exact ⟨rfl, hb1⟩
  | true =>
    go_enter Try.func38, Try.ntmps38
    go_wp2_with (first
      | (go_at_call 56; refine HF.out.mono ?_; rintro e w1 ⟨rfl, hb1⟩)
      | (go_at_call 83; refine (HK.out _).mono ?_; rintro e w2 ⟨rfl, hb2⟩))
    go_ret
    exact ⟨rfl, hb1.trans (hb2.mono hb1.size)⟩

set_option maxRecDepth 100000 in
theorem kind_setting (t : Int) (w : World) : Calls Try.prog 85 #[.agg #[], .int .i64 t] w fun e w' => e = .returned (.int .i64 (2)) ∧ Below w.heap.size w w' := by
  have hB0 : Below w.heap.size w (w.alloc (.cells #[] 75)) := (Below.refl _ _).alloc (Nat.le_refl _) _
  go_enter Try.func85, Try.ntmps85
  go_wp2
  go_ret
  exact ⟨rfl, hB0⟩
set_option maxRecDepth 100000 in
set_option maxHeartbeats 1000000 in
theorem made_setting (t : Int) (A : Option Addr) (cap : Nat) (xs : List Nd) (w : World) (hx : Nodes w w.heap.size A xs) (hl : xs.length ≤ 1000000) (hp : (Way.setting).branches → 0 < xs.length) (hc : xs.length ≤ cap) :
    Calls Try.prog 38 #[(Way.setting).val, .int .i64 t, .slice A xs.length cap] w fun e w' => e = .returned (.int .i64 (if (Way.setting).fits t xs then (Way.setting).gives t else -1)) ∧ Below w.heap.size w w' := by
  have HF := Lib.hid (fits_any (.setting) t A cap xs w hx hl hp hc)
  have HK := Lib.hid (fun W => kind_setting t W)
  clear hx
  generalize (Way.setting).fits t xs = y at *
  unfold Way.val at *
  have hm : ∀ n W, (method (n + 1) 75 (.agg #[]) "offshoot/kinds.kind").run Try.prog W = .ok (85, .agg #[]) W := fun n W => by kernel_rfl
  cases y with
  | false =>
    go_enter Try.func38, Try.ntmps38
    go_wp2_with (go_at_call 56; refine HF.out.mono ?_; rintro e w1 ⟨rfl, hb1⟩)
    go_ret
    exact ⟨rfl, hb1⟩
  | true =>
    go_enter Try.func38, Try.ntmps38
    go_wp2_with (first
      | (go_at_call 56; refine HF.out.mono ?_; rintro e w1 ⟨rfl, hb1⟩)
      | (go_at_call 85; refine (HK.out _).mono ?_; rintro e w2 ⟨rfl, hb2⟩))
    go_ret
    exact ⟨rfl, hb1.trans (hb2.mono hb1.size)⟩

set_option maxRecDepth 100000 in
theorem kind_branching (t : Int) (w : World) : Calls Try.prog 86 #[.agg #[], .int .i64 t] w fun e w' => e = .returned (.int .i64 (2)) ∧ Below w.heap.size w w' := by
  have hB0 : Below w.heap.size w (w.alloc (.cells #[] 76)) := (Below.refl _ _).alloc (Nat.le_refl _) _
  go_enter Try.func86, Try.ntmps86
  go_wp2
  go_ret
  exact ⟨rfl, hB0⟩
set_option maxRecDepth 100000 in
set_option maxHeartbeats 1000000 in
theorem made_branching (t : Int) (A : Option Addr) (cap : Nat) (xs : List Nd) (w : World) (hx : Nodes w w.heap.size A xs) (hl : xs.length ≤ 1000000) (hp : (Way.branching).branches → 0 < xs.length) (hc : xs.length ≤ cap) :
    Calls Try.prog 38 #[(Way.branching).val, .int .i64 t, .slice A xs.length cap] w fun e w' => e = .returned (.int .i64 (if (Way.branching).fits t xs then (Way.branching).gives t else -1)) ∧ Below w.heap.size w w' := by
  have HF := Lib.hid (fits_any (.branching) t A cap xs w hx hl hp hc)
  have HK := Lib.hid (fun W => kind_branching t W)
  clear hx
  generalize (Way.branching).fits t xs = y at *
  unfold Way.val at *
  have hm : ∀ n W, (method (n + 1) 76 (.agg #[]) "offshoot/kinds.kind").run Try.prog W = .ok (86, .agg #[]) W := fun n W => by kernel_rfl
  cases y with
  | false =>
    go_enter Try.func38, Try.ntmps38
    go_wp2_with (go_at_call 56; refine HF.out.mono ?_; rintro e w1 ⟨rfl, hb1⟩)
    go_ret
    exact ⟨rfl, hb1⟩
  | true =>
    go_enter Try.func38, Try.ntmps38
    go_wp2_with (first
      | (go_at_call 56; refine HF.out.mono ?_; rintro e w1 ⟨rfl, hb1⟩)
      | (go_at_call 86; refine (HK.out _).mono ?_; rintro e w2 ⟨rfl, hb2⟩))
    go_ret
    exact ⟨rfl, hb1.trans (hb2.mono hb1.size)⟩

theorem made_any (W : Way) (t : Int) (A : Option Addr) (cap : Nat) (xs : List Nd) (w : World) (hx : Nodes w w.heap.size A xs) (hl : xs.length ≤ 1000000) (hp : W.branches → 0 < xs.length) (hc : xs.length ≤ cap) :
    Calls Try.prog 38 #[W.val, .int .i64 t, .slice A xs.length cap] w fun e w' => e = .returned (.int .i64 (if W.fits t xs then W.gives t else -1)) ∧ Below w.heap.size w w' := by
  cases W with
  | alike k g => exact made_alike k g t A cap xs w hx hl hp hc
  | elem g => exact made_elem g t A cap xs w hx hl hp hc
  | value => exact made_value t A cap xs w hx hl hp hc
  | setting => exact made_setting t A cap xs w hx hl hp hc
  | branching => exact made_branching t A cap xs w hx hl hp hc

/-- A tag's way. -/
def cls (t : Int) : Way :=
  if t = 2 then .alike 0 1 else if t = 3 then .value else if t = 4 then .elem 0 else if t = 6 then .alike 1 1
  else if 12 ≤ t ∧ t ≤ 17 then .alike 0 1 else if t = 18 ∨ t = 19 then .alike 1 1 else if t = 20 then .alike 2 2
  else if t = 21 then .setting else if t = 22 then .elem 2 else if t = 23 ∨ t = 24 then .branching
  else if t = 25 ∨ t = 26 then .alike 0 2 else .alike 0 0
theorem way_cls (t : Nat) (h1 : 1 ≤ t) (h2 : t ≤ 26) : wayOf t = (cls t).val := by
  rcases (show t = 1 ∨ t = 2 ∨ t = 3 ∨ t = 4 ∨ t = 5 ∨ t = 6 ∨ t = 7 ∨ t = 8 ∨ t = 9 ∨ t = 10 ∨ t = 11 ∨ t = 12 ∨ t = 13 ∨ t = 14 ∨ t = 15 ∨ t = 16 ∨ t = 17 ∨ t = 18 ∨ t = 19 ∨ t = 20 ∨ t = 21 ∨ t = 22 ∨ t = 23 ∨ t = 24 ∨ t = 25 ∨ t = 26 by omega) with rfl | rfl | rfl | rfl | rfl | rfl | rfl | rfl | rfl | rfl | rfl | rfl | rfl | rfl | rfl | rfl | rfl | rfl | rfl | rfl | rfl | rfl | rfl | rfl | rfl | rfl
  all_goals kernel_rfl
/-- Kids, the first one last, as a tag and a kind. -/
def sw (y : Int × Int) : Nd := (y.2, y.1)
theorem ar_tag {x : Nd} (h : 0 ≤ ar x) : 1 ≤ x.1 ∧ x.1 ≤ 26 := by
  unfold ar asks at h
  by_cases h1 : x.1 = 1
  · omega
  rw [if_neg h1] at h
  split at h
  · omega
  · rename_i hq
    revert h hq
    repeat' split
    all_goals (intros; omega)

end Go.Proofs.Yteknfglfbkknaaa.Kinds
