/-
  Package direct, walked: what nodes do that tell a value.
-/
import Derived.Test.YtodejloonfkkmaaDirPEnter
set_option linter.unusedVariables false
set_option linter.unusedSimpArgs false
namespace Go.Proofs.Ytodejloonfkkmaa.Dir
open Go.RowKit Mem _root_.Go.Proofs.Ytodejloonfkkmaa.Arena _root_.Go.Proofs.Ytodejloonfkkmaa.Kinds _root_.Go.Proofs.Ytodejloonfkkmaa.Path _root_.Go.Proofs.Ytodejloonfkkmaa.Cat _root_.Go.Proofs.Ytodejloonfkkmaa.Suite _root_.Go.Proofs.Ytodejloonfkkmaa.Mach
attribute [local go_sem ↓] Go.wp_at_zero Go.wp_at_succ

set_option maxRecDepth 100000 in
theorem truth_any (p : Bool) (w : World) : Calls Try.prog 100 #[.bool p] w fun e w' => e = .returned (.int .i64 (b01 p)) ∧ w' = w := by
  cases p
  · go_enter Try.func100, Try.ntmps100
    go_wp2_with fail
    go_ret
    exact ⟨rfl, rfl⟩
  · go_enter Try.func100, Try.ntmps100
    go_wp2_with fail
    go_ret
    exact ⟨rfl, rfl⟩
section
variable {K : DK} {κ : Nat → Nat} {evv : Value} {Y : List ((Option Addr × Nat) × List Int)} {s : St} {pos : Int} {W W' : World}
set_option maxRecDepth 100000 in
set_option maxHeartbeats 2000000 in
theorem do_constant {k : Int} (N : Int) (h : DM K κ evv Y s k W) (ho : s.over = false) : Calls Try.prog 87 #[.agg #[], .pointer (some ⟨K.g, 0, none⟩), .int .i64 N] W (DEnds K κ (s, N) k W) := by
  have hb0 := (Below.refl W.heap.size W).alloc (Nat.le_refl _) (.cells #[] 81)
  have H0 := Lib.hid (h.below hb0)
  have HW0 := Lib.hid ((Went.refl κ W).below hb0)
  clear h hb0
  go_enter Try.func87, Try.ntmps87
  go_wp2_with fail
  go_ret
  exact DEnds.on H0.out HW0.out ho
set_option maxRecDepth 100000 in
set_option maxHeartbeats 2000000 in
theorem do_skip {k : Int} (N : Int) (h : DM K κ evv Y s k W) (ho : s.over = false) : Calls Try.prog 115 #[.agg #[], .pointer (some ⟨K.g, 0, none⟩), .int .i64 N] W (DEnds K κ (s, 0) k W) := by
  have hb0 := (Below.refl W.heap.size W).alloc (Nat.le_refl _) (.cells #[] 105)
  have H0 := Lib.hid (h.below hb0)
  have HW0 := Lib.hid ((Went.refl κ W).below hb0)
  clear h hb0
  go_enter Try.func115, Try.ntmps115
  go_wp2_with fail
  go_ret
  exact DEnds.on H0.out HW0.out ho
set_option maxRecDepth 100000 in
set_option maxHeartbeats 2000000 in
theorem do_neg {k q2 : Int} (N : Int) (h : DM K κ evv Y s k W) {s1 : St} {a : Int} (h1 : NodeOk K k s (s1, a) q2) :
    Calls Try.prog 91 #[.agg #[], .pointer (some ⟨K.g, 0, none⟩), .int .i64 N] W (DEnds K κ (if s1.over = true then (s1, 0) else (s1, IntKind.i64.wrap (0 - a))) q2 W) := by
  have hb0 := (Below.refl W.heap.size W).alloc (Nat.le_refl _) (.cells #[] 84)
  have H0 := Lib.hid (h.below hb0)
  have HW0 := Lib.hid ((Went.refl κ W).below hb0)
  clear h hb0
  have H1 := Lib.hid h1
  clear h1
  by_cases ho1 : s1.over = true
  · rw [if_pos ho1]
    go_enter Try.func91, Try.ntmps91
    go_wp2_with (first
      | (go_at_call 33; (with_reducible refine (H1.out _ _ _ _ H0.out).mono ?_); rintro e w1 hE; obtain ⟨rfl, κ1, evv1, Y1, pos1, h1, hw1⟩ := hE.to_over ho1)
      | fail)
    exact ⟨rfl, DEnds.over h1 (HW0.out.trans hw1) ho1⟩
  rw [if_neg ho1]
  have ho1 : s1.over = false := by simpa using ho1
  go_enter Try.func91, Try.ntmps91
  go_wp2_with (first
    | (go_at_call 33; (with_reducible refine (H1.out _ _ _ _ H0.out).mono ?_); rintro e w1 hE; obtain ⟨rfl, κ1, evv1, Y1, h1, hw1⟩ := hE.to_on ho1)
    | fail)
  go_ret
  exact (DEnds.on h1 (HW0.out.trans hw1) ho1).cast (by rw [Int.zero_sub, IntWalk.i64_left])
set_option maxRecDepth 100000 in
set_option maxHeartbeats 2000000 in
theorem do_not {k q2 : Int} (N : Int) (h : DM K κ evv Y s k W) {s1 : St} {a : Int} (h1 : NodeOk K k s (s1, a) q2) :
    Calls Try.prog 92 #[.agg #[], .pointer (some ⟨K.g, 0, none⟩), .int .i64 N] W (DEnds K κ (if s1.over = true then (s1, 0) else (s1, IntKind.i64.wrap (1 - a))) q2 W) := by
  have hb0 := (Below.refl W.heap.size W).alloc (Nat.le_refl _) (.cells #[] 85)
  have H0 := Lib.hid (h.below hb0)
  have HW0 := Lib.hid ((Went.refl κ W).below hb0)
  clear h hb0
  have H1 := Lib.hid h1
  clear h1
  by_cases ho1 : s1.over = true
  · rw [if_pos ho1]
    go_enter Try.func92, Try.ntmps92
    go_wp2_with (first
      | (go_at_call 33; (with_reducible refine (H1.out _ _ _ _ H0.out).mono ?_); rintro e w1 hE; obtain ⟨rfl, κ1, evv1, Y1, pos1, h1, hw1⟩ := hE.to_over ho1)
      | fail)
    exact ⟨rfl, DEnds.over h1 (HW0.out.trans hw1) ho1⟩
  rw [if_neg ho1]
  have ho1 : s1.over = false := by simpa using ho1
  go_enter Try.func92, Try.ntmps92
  go_wp2_with (first
    | (go_at_call 33; (with_reducible refine (H1.out _ _ _ _ H0.out).mono ?_); rintro e w1 hE; obtain ⟨rfl, κ1, evv1, Y1, h1, hw1⟩ := hE.to_on ho1)
    | fail)
  go_ret
  exact (DEnds.on h1 (HW0.out.trans hw1) ho1).cast (by rw [IntWalk.i64_left])
set_option maxRecDepth 100000 in
set_option maxHeartbeats 2000000 in
theorem do_add {k q2 q3 : Int} (N : Int) (h : DM K κ evv Y s k W) {s1 s2 : St} {a b : Int} (h1 : NodeOk K k s (s1, a) q2) (h2 : s1.over = false → NodeOk K q2 s1 (s2, b) q3) :
    Calls Try.prog 93 #[.agg #[], .pointer (some ⟨K.g, 0, none⟩), .int .i64 N] W (DEnds K κ (if s1.over = true then (s1, 0) else if s2.over = true then (s2, 0) else (s2, IntKind.i64.wrap (a + b))) q3 W) := by
  have hb0 := (Below.refl W.heap.size W).alloc (Nat.le_refl _) (.cells #[] 86)
  have H0 := Lib.hid (h.below hb0)
  have HW0 := Lib.hid ((Went.refl κ W).below hb0)
  clear h hb0
  have H1 := Lib.hid h1
  clear h1
  by_cases ho1 : s1.over = true
  · rw [if_pos ho1]
    clear h2
    go_enter Try.func93, Try.ntmps93
    go_wp2_with (first
      | (go_at_call 33; (with_reducible refine (H1.out _ _ _ _ H0.out).mono ?_); rintro e w1 hE; obtain ⟨rfl, κ1, evv1, Y1, pos1, h1, hw1⟩ := hE.to_over ho1)
      | fail)
    exact ⟨rfl, DEnds.over h1 (HW0.out.trans hw1) ho1⟩
  rw [if_neg ho1]
  have ho1 : s1.over = false := by simpa using ho1
  have H2 := Lib.hid (h2 ho1)
  clear h2
  by_cases ho2 : s2.over = true
  · rw [if_pos ho2]
    go_enter Try.func93, Try.ntmps93
    go_wp2_with (first
      | (go_at_call 33; (with_reducible refine (H1.out _ _ _ _ H0.out).mono ?_); rintro e w1 hE; obtain ⟨rfl, κ1, evv1, Y1, h1, hw1⟩ := hE.to_on ho1)
      | (go_at_call 33; (with_reducible refine (H2.out _ _ _ _ h1).mono ?_); rintro e w2 hE; obtain ⟨rfl, κ2, evv2, Y2, pos2, h2, hw2⟩ := hE.to_over ho2)
      | fail)
    exact ⟨rfl, DEnds.over h2 ((HW0.out.trans hw1).trans hw2) ho2⟩
  rw [if_neg ho2]
  have ho2 : s2.over = false := by simpa using ho2
  go_enter Try.func93, Try.ntmps93
  go_wp2_with (first
    | (go_at_call 33; (with_reducible refine (H1.out _ _ _ _ H0.out).mono ?_); rintro e w1 hE; obtain ⟨rfl, κ1, evv1, Y1, h1, hw1⟩ := hE.to_on ho1)
    | (go_at_call 33; (with_reducible refine (H2.out _ _ _ _ h1).mono ?_); rintro e w2 hE; obtain ⟨rfl, κ2, evv2, Y2, h2, hw2⟩ := hE.to_on ho2)
    | fail)
  go_ret
  exact (DEnds.on h2 ((HW0.out.trans hw1).trans hw2) ho2).cast (by rw [IntWalk.i64_left])
set_option maxRecDepth 100000 in
set_option maxHeartbeats 2000000 in
theorem do_sub {k q2 q3 : Int} (N : Int) (h : DM K κ evv Y s k W) {s1 s2 : St} {a b : Int} (h1 : NodeOk K k s (s1, a) q2) (h2 : s1.over = false → NodeOk K q2 s1 (s2, b) q3) :
    Calls Try.prog 94 #[.agg #[], .pointer (some ⟨K.g, 0, none⟩), .int .i64 N] W (DEnds K κ (if s1.over = true then (s1, 0) else if s2.over = true then (s2, 0) else (s2, IntKind.i64.wrap (a - b))) q3 W) := by
  have hb0 := (Below.refl W.heap.size W).alloc (Nat.le_refl _) (.cells #[] 87)
  have H0 := Lib.hid (h.below hb0)
  have HW0 := Lib.hid ((Went.refl κ W).below hb0)
  clear h hb0
  have H1 := Lib.hid h1
  clear h1
  by_cases ho1 : s1.over = true
  · rw [if_pos ho1]
    clear h2
    go_enter Try.func94, Try.ntmps94
    go_wp2_with (first
      | (go_at_call 33; (with_reducible refine (H1.out _ _ _ _ H0.out).mono ?_); rintro e w1 hE; obtain ⟨rfl, κ1, evv1, Y1, pos1, h1, hw1⟩ := hE.to_over ho1)
      | fail)
    exact ⟨rfl, DEnds.over h1 (HW0.out.trans hw1) ho1⟩
  rw [if_neg ho1]
  have ho1 : s1.over = false := by simpa using ho1
  have H2 := Lib.hid (h2 ho1)
  clear h2
  by_cases ho2 : s2.over = true
  · rw [if_pos ho2]
    go_enter Try.func94, Try.ntmps94
    go_wp2_with (first
      | (go_at_call 33; (with_reducible refine (H1.out _ _ _ _ H0.out).mono ?_); rintro e w1 hE; obtain ⟨rfl, κ1, evv1, Y1, h1, hw1⟩ := hE.to_on ho1)
      | (go_at_call 33; (with_reducible refine (H2.out _ _ _ _ h1).mono ?_); rintro e w2 hE; obtain ⟨rfl, κ2, evv2, Y2, pos2, h2, hw2⟩ := hE.to_over ho2)
      | fail)
    exact ⟨rfl, DEnds.over h2 ((HW0.out.trans hw1).trans hw2) ho2⟩
  rw [if_neg ho2]
  have ho2 : s2.over = false := by simpa using ho2
  go_enter Try.func94, Try.ntmps94
  go_wp2_with (first
    | (go_at_call 33; (with_reducible refine (H1.out _ _ _ _ H0.out).mono ?_); rintro e w1 hE; obtain ⟨rfl, κ1, evv1, Y1, h1, hw1⟩ := hE.to_on ho1)
    | (go_at_call 33; (with_reducible refine (H2.out _ _ _ _ h1).mono ?_); rintro e w2 hE; obtain ⟨rfl, κ2, evv2, Y2, h2, hw2⟩ := hE.to_on ho2)
    | fail)
  go_ret
  exact (DEnds.on h2 ((HW0.out.trans hw1).trans hw2) ho2).cast (by rw [IntWalk.i64_left])
set_option maxRecDepth 100000 in
set_option maxHeartbeats 2000000 in
theorem do_mul {k q2 q3 : Int} (N : Int) (h : DM K κ evv Y s k W) {s1 s2 : St} {a b : Int} (h1 : NodeOk K k s (s1, a) q2) (h2 : s1.over = false → NodeOk K q2 s1 (s2, b) q3) :
    Calls Try.prog 95 #[.agg #[], .pointer (some ⟨K.g, 0, none⟩), .int .i64 N] W (DEnds K κ (if s1.over = true then (s1, 0) else if s2.over = true then (s2, 0) else (s2, IntKind.i64.wrap (a * b))) q3 W) := by
  have hb0 := (Below.refl W.heap.size W).alloc (Nat.le_refl _) (.cells #[] 88)
  have H0 := Lib.hid (h.below hb0)
  have HW0 := Lib.hid ((Went.refl κ W).below hb0)
  clear h hb0
  have H1 := Lib.hid h1
  clear h1
  by_cases ho1 : s1.over = true
  · rw [if_pos ho1]
    clear h2
    go_enter Try.func95, Try.ntmps95
    go_wp2_with (first
      | (go_at_call 33; (with_reducible refine (H1.out _ _ _ _ H0.out).mono ?_); rintro e w1 hE; obtain ⟨rfl, κ1, evv1, Y1, pos1, h1, hw1⟩ := hE.to_over ho1)
      | fail)
    exact ⟨rfl, DEnds.over h1 (HW0.out.trans hw1) ho1⟩
  rw [if_neg ho1]
  have ho1 : s1.over = false := by simpa using ho1
  have H2 := Lib.hid (h2 ho1)
  clear h2
  by_cases ho2 : s2.over = true
  · rw [if_pos ho2]
    go_enter Try.func95, Try.ntmps95
    go_wp2_with (first
      | (go_at_call 33; (with_reducible refine (H1.out _ _ _ _ H0.out).mono ?_); rintro e w1 hE; obtain ⟨rfl, κ1, evv1, Y1, h1, hw1⟩ := hE.to_on ho1)
      | (go_at_call 33; (with_reducible refine (H2.out _ _ _ _ h1).mono ?_); rintro e w2 hE; obtain ⟨rfl, κ2, evv2, Y2, pos2, h2, hw2⟩ := hE.to_over ho2)
      | fail)
    exact ⟨rfl, DEnds.over h2 ((HW0.out.trans hw1).trans hw2) ho2⟩
  rw [if_neg ho2]
  have ho2 : s2.over = false := by simpa using ho2
  go_enter Try.func95, Try.ntmps95
  go_wp2_with (first
    | (go_at_call 33; (with_reducible refine (H1.out _ _ _ _ H0.out).mono ?_); rintro e w1 hE; obtain ⟨rfl, κ1, evv1, Y1, h1, hw1⟩ := hE.to_on ho1)
    | (go_at_call 33; (with_reducible refine (H2.out _ _ _ _ h1).mono ?_); rintro e w2 hE; obtain ⟨rfl, κ2, evv2, Y2, h2, hw2⟩ := hE.to_on ho2)
    | fail)
  go_ret
  exact (DEnds.on h2 ((HW0.out.trans hw1).trans hw2) ho2).cast (by rw [IntWalk.i64_left])
set_option maxRecDepth 100000 in
set_option maxHeartbeats 2000000 in
theorem do_eq {k q2 q3 : Int} (N : Int) (h : DM K κ evv Y s k W) {s1 s2 : St} {a b : Int} (h1 : NodeOk K k s (s1, a) q2) (h2 : s1.over = false → NodeOk K q2 s1 (s2, b) q3) :
    Calls Try.prog 99 #[.agg #[], .pointer (some ⟨K.g, 0, none⟩), .int .i64 N] W (DEnds K κ (if s1.over = true then (s1, 0) else if s2.over = true then (s2, 0) else (s2, b01 (a == b))) q3 W) := by
  have hb0 := (Below.refl W.heap.size W).alloc (Nat.le_refl _) (.cells #[] 91)
  have H0 := Lib.hid (h.below hb0)
  have HW0 := Lib.hid ((Went.refl κ W).below hb0)
  clear h hb0
  have H1 := Lib.hid h1
  clear h1
  by_cases ho1 : s1.over = true
  · rw [if_pos ho1]
    clear h2
    go_enter Try.func99, Try.ntmps99
    go_wp2_with (first
      | (go_at_call 33; (with_reducible refine (H1.out _ _ _ _ H0.out).mono ?_); rintro e w1 hE; obtain ⟨rfl, κ1, evv1, Y1, pos1, h1, hw1⟩ := hE.to_over ho1)
      | fail)
    exact ⟨rfl, DEnds.over h1 (HW0.out.trans hw1) ho1⟩
  rw [if_neg ho1]
  have ho1 : s1.over = false := by simpa using ho1
  have H2 := Lib.hid (h2 ho1)
  clear h2
  by_cases ho2 : s2.over = true
  · rw [if_pos ho2]
    go_enter Try.func99, Try.ntmps99
    go_wp2_with (first
      | (go_at_call 33; (with_reducible refine (H1.out _ _ _ _ H0.out).mono ?_); rintro e w1 hE; obtain ⟨rfl, κ1, evv1, Y1, h1, hw1⟩ := hE.to_on ho1)
      | (go_at_call 33; (with_reducible refine (H2.out _ _ _ _ h1).mono ?_); rintro e w2 hE; obtain ⟨rfl, κ2, evv2, Y2, pos2, h2, hw2⟩ := hE.to_over ho2)
      | fail)
    exact ⟨rfl, DEnds.over h2 ((HW0.out.trans hw1).trans hw2) ho2⟩
  rw [if_neg ho2]
  have ho2 : s2.over = false := by simpa using ho2
  go_enter Try.func99, Try.ntmps99
  go_wp2_with (first
    | (go_at_call 33; (with_reducible refine (H1.out _ _ _ _ H0.out).mono ?_); rintro e w1 hE; obtain ⟨rfl, κ1, evv1, Y1, h1, hw1⟩ := hE.to_on ho1)
    | (go_at_call 33; (with_reducible refine (H2.out _ _ _ _ h1).mono ?_); rintro e w2 hE; obtain ⟨rfl, κ2, evv2, Y2, h2, hw2⟩ := hE.to_on ho2)
    | (go_at_call 100; (refine (truth_any _ _).mono ?_); rintro e w3 ⟨rfl, rfl⟩)
    | fail)
  go_ret
  exact DEnds.on h2 ((HW0.out.trans hw1).trans hw2) ho2
set_option maxRecDepth 100000 in
set_option maxHeartbeats 2000000 in
theorem do_ne {k q2 q3 : Int} (N : Int) (h : DM K κ evv Y s k W) {s1 s2 : St} {a b : Int} (h1 : NodeOk K k s (s1, a) q2) (h2 : s1.over = false → NodeOk K q2 s1 (s2, b) q3) :
    Calls Try.prog 101 #[.agg #[], .pointer (some ⟨K.g, 0, none⟩), .int .i64 N] W (DEnds K κ (if s1.over = true then (s1, 0) else if s2.over = true then (s2, 0) else (s2, b01 (a != b))) q3 W) := by
  have hb0 := (Below.refl W.heap.size W).alloc (Nat.le_refl _) (.cells #[] 92)
  have H0 := Lib.hid (h.below hb0)
  have HW0 := Lib.hid ((Went.refl κ W).below hb0)
  clear h hb0
  have H1 := Lib.hid h1
  clear h1
  by_cases ho1 : s1.over = true
  · rw [if_pos ho1]
    clear h2
    go_enter Try.func101, Try.ntmps101
    go_wp2_with (first
      | (go_at_call 33; (with_reducible refine (H1.out _ _ _ _ H0.out).mono ?_); rintro e w1 hE; obtain ⟨rfl, κ1, evv1, Y1, pos1, h1, hw1⟩ := hE.to_over ho1)
      | fail)
    exact ⟨rfl, DEnds.over h1 (HW0.out.trans hw1) ho1⟩
  rw [if_neg ho1]
  have ho1 : s1.over = false := by simpa using ho1
  have H2 := Lib.hid (h2 ho1)
  clear h2
  by_cases ho2 : s2.over = true
  · rw [if_pos ho2]
    go_enter Try.func101, Try.ntmps101
    go_wp2_with (first
      | (go_at_call 33; (with_reducible refine (H1.out _ _ _ _ H0.out).mono ?_); rintro e w1 hE; obtain ⟨rfl, κ1, evv1, Y1, h1, hw1⟩ := hE.to_on ho1)
      | (go_at_call 33; (with_reducible refine (H2.out _ _ _ _ h1).mono ?_); rintro e w2 hE; obtain ⟨rfl, κ2, evv2, Y2, pos2, h2, hw2⟩ := hE.to_over ho2)
      | fail)
    exact ⟨rfl, DEnds.over h2 ((HW0.out.trans hw1).trans hw2) ho2⟩
  rw [if_neg ho2]
  have ho2 : s2.over = false := by simpa using ho2
  go_enter Try.func101, Try.ntmps101
  go_wp2_with (first
    | (go_at_call 33; (with_reducible refine (H1.out _ _ _ _ H0.out).mono ?_); rintro e w1 hE; obtain ⟨rfl, κ1, evv1, Y1, h1, hw1⟩ := hE.to_on ho1)
    | (go_at_call 33; (with_reducible refine (H2.out _ _ _ _ h1).mono ?_); rintro e w2 hE; obtain ⟨rfl, κ2, evv2, Y2, h2, hw2⟩ := hE.to_on ho2)
    | (go_at_call 100; (refine (truth_any _ _).mono ?_); rintro e w3 ⟨rfl, rfl⟩)
    | fail)
  go_ret
  exact DEnds.on h2 ((HW0.out.trans hw1).trans hw2) ho2
set_option maxRecDepth 100000 in
set_option maxHeartbeats 2000000 in
theorem do_lt {k q2 q3 : Int} (N : Int) (h : DM K κ evv Y s k W) {s1 s2 : St} {a b : Int} (h1 : NodeOk K k s (s1, a) q2) (h2 : s1.over = false → NodeOk K q2 s1 (s2, b) q3) :
    Calls Try.prog 102 #[.agg #[], .pointer (some ⟨K.g, 0, none⟩), .int .i64 N] W (DEnds K κ (if s1.over = true then (s1, 0) else if s2.over = true then (s2, 0) else (s2, b01 (decide (a < b)))) q3 W) := by
  have hb0 := (Below.refl W.heap.size W).alloc (Nat.le_refl _) (.cells #[] 93)
  have H0 := Lib.hid (h.below hb0)
  have HW0 := Lib.hid ((Went.refl κ W).below hb0)
  clear h hb0
  have H1 := Lib.hid h1
  clear h1
  by_cases ho1 : s1.over = true
  · rw [if_pos ho1]
    clear h2
    go_enter Try.func102, Try.ntmps102
    go_wp2_with (first
      | (go_at_call 33; (with_reducible refine (H1.out _ _ _ _ H0.out).mono ?_); rintro e w1 hE; obtain ⟨rfl, κ1, evv1, Y1, pos1, h1, hw1⟩ := hE.to_over ho1)
      | fail)
    exact ⟨rfl, DEnds.over h1 (HW0.out.trans hw1) ho1⟩
  rw [if_neg ho1]
  have ho1 : s1.over = false := by simpa using ho1
  have H2 := Lib.hid (h2 ho1)
  clear h2
  by_cases ho2 : s2.over = true
  · rw [if_pos ho2]
    go_enter Try.func102, Try.ntmps102
    go_wp2_with (first
      | (go_at_call 33; (with_reducible refine (H1.out _ _ _ _ H0.out).mono ?_); rintro e w1 hE; obtain ⟨rfl, κ1, evv1, Y1, h1, hw1⟩ := hE.to_on ho1)
      | (go_at_call 33; (with_reducible refine (H2.out _ _ _ _ h1).mono ?_); rintro e w2 hE; obtain ⟨rfl, κ2, evv2, Y2, pos2, h2, hw2⟩ := hE.to_over ho2)
      | fail)
    exact ⟨rfl, DEnds.over h2 ((HW0.out.trans hw1).trans hw2) ho2⟩
  rw [if_neg ho2]
  have ho2 : s2.over = false := by simpa using ho2
  go_enter Try.func102, Try.ntmps102
  go_wp2_with (first
    | (go_at_call 33; (with_reducible refine (H1.out _ _ _ _ H0.out).mono ?_); rintro e w1 hE; obtain ⟨rfl, κ1, evv1, Y1, h1, hw1⟩ := hE.to_on ho1)
    | (go_at_call 33; (with_reducible refine (H2.out _ _ _ _ h1).mono ?_); rintro e w2 hE; obtain ⟨rfl, κ2, evv2, Y2, h2, hw2⟩ := hE.to_on ho2)
    | (go_at_call 100; (refine (truth_any _ _).mono ?_); rintro e w3 ⟨rfl, rfl⟩)
    | fail)
  go_ret
  exact DEnds.on h2 ((HW0.out.trans hw1).trans hw2) ho2
set_option maxRecDepth 100000 in
set_option maxHeartbeats 2000000 in
theorem do_le {k q2 q3 : Int} (N : Int) (h : DM K κ evv Y s k W) {s1 s2 : St} {a b : Int} (h1 : NodeOk K k s (s1, a) q2) (h2 : s1.over = false → NodeOk K q2 s1 (s2, b) q3) :
    Calls Try.prog 103 #[.agg #[], .pointer (some ⟨K.g, 0, none⟩), .int .i64 N] W (DEnds K κ (if s1.over = true then (s1, 0) else if s2.over = true then (s2, 0) else (s2, b01 (decide (a ≤ b)))) q3 W) := by
  have hb0 := (Below.refl W.heap.size W).alloc (Nat.le_refl _) (.cells #[] 94)
  have H0 := Lib.hid (h.below hb0)
  have HW0 := Lib.hid ((Went.refl κ W).below hb0)
  clear h hb0
  have H1 := Lib.hid h1
  clear h1
  by_cases ho1 : s1.over = true
  · rw [if_pos ho1]
    clear h2
    go_enter Try.func103, Try.ntmps103
    go_wp2_with (first
      | (go_at_call 33; (with_reducible refine (H1.out _ _ _ _ H0.out).mono ?_); rintro e w1 hE; obtain ⟨rfl, κ1, evv1, Y1, pos1, h1, hw1⟩ := hE.to_over ho1)
      | fail)
    exact ⟨rfl, DEnds.over h1 (HW0.out.trans hw1) ho1⟩
  rw [if_neg ho1]
  have ho1 : s1.over = false := by simpa using ho1
  have H2 := Lib.hid (h2 ho1)
  clear h2
  by_cases ho2 : s2.over = true
  · rw [if_pos ho2]
    go_enter Try.func103, Try.ntmps103
    go_wp2_with (first
      | (go_at_call 33; (with_reducible refine (H1.out _ _ _ _ H0.out).mono ?_); rintro e w1 hE; obtain ⟨rfl, κ1, evv1, Y1, h1, hw1⟩ := hE.to_on ho1)
      | (go_at_call 33; (with_reducible refine (H2.out _ _ _ _ h1).mono ?_); rintro e w2 hE; obtain ⟨rfl, κ2, evv2, Y2, pos2, h2, hw2⟩ := hE.to_over ho2)
      | fail)
    exact ⟨rfl, DEnds.over h2 ((HW0.out.trans hw1).trans hw2) ho2⟩
  rw [if_neg ho2]
  have ho2 : s2.over = false := by simpa using ho2
  go_enter Try.func103, Try.ntmps103
  go_wp2_with (first
    | (go_at_call 33; (with_reducible refine (H1.out _ _ _ _ H0.out).mono ?_); rintro e w1 hE; obtain ⟨rfl, κ1, evv1, Y1, h1, hw1⟩ := hE.to_on ho1)
    | (go_at_call 33; (with_reducible refine (H2.out _ _ _ _ h1).mono ?_); rintro e w2 hE; obtain ⟨rfl, κ2, evv2, Y2, h2, hw2⟩ := hE.to_on ho2)
    | (go_at_call 100; (refine (truth_any _ _).mono ?_); rintro e w3 ⟨rfl, rfl⟩)
    | fail)
  go_ret
  exact DEnds.on h2 ((HW0.out.trans hw1).trans hw2) ho2
set_option maxRecDepth 100000 in
set_option maxHeartbeats 2000000 in
theorem do_gt {k q2 q3 : Int} (N : Int) (h : DM K κ evv Y s k W) {s1 s2 : St} {a b : Int} (h1 : NodeOk K k s (s1, a) q2) (h2 : s1.over = false → NodeOk K q2 s1 (s2, b) q3) :
    Calls Try.prog 104 #[.agg #[], .pointer (some ⟨K.g, 0, none⟩), .int .i64 N] W (DEnds K κ (if s1.over = true then (s1, 0) else if s2.over = true then (s2, 0) else (s2, b01 (decide (b < a)))) q3 W) := by
  have hb0 := (Below.refl W.heap.size W).alloc (Nat.le_refl _) (.cells #[] 95)
  have H0 := Lib.hid (h.below hb0)
  have HW0 := Lib.hid ((Went.refl κ W).below hb0)
  clear h hb0
  have H1 := Lib.hid h1
  clear h1
  by_cases ho1 : s1.over = true
  · rw [if_pos ho1]
    clear h2
    go_enter Try.func104, Try.ntmps104
    go_wp2_with (first
      | (go_at_call 33; (with_reducible refine (H1.out _ _ _ _ H0.out).mono ?_); rintro e w1 hE; obtain ⟨rfl, κ1, evv1, Y1, pos1, h1, hw1⟩ := hE.to_over ho1)
      | fail)
    exact ⟨rfl, DEnds.over h1 (HW0.out.trans hw1) ho1⟩
  rw [if_neg ho1]
  have ho1 : s1.over = false := by simpa using ho1
  have H2 := Lib.hid (h2 ho1)
  clear h2
  by_cases ho2 : s2.over = true
  · rw [if_pos ho2]
    go_enter Try.func104, Try.ntmps104
    go_wp2_with (first
      | (go_at_call 33; (with_reducible refine (H1.out _ _ _ _ H0.out).mono ?_); rintro e w1 hE; obtain ⟨rfl, κ1, evv1, Y1, h1, hw1⟩ := hE.to_on ho1)
      | (go_at_call 33; (with_reducible refine (H2.out _ _ _ _ h1).mono ?_); rintro e w2 hE; obtain ⟨rfl, κ2, evv2, Y2, pos2, h2, hw2⟩ := hE.to_over ho2)
      | fail)
    exact ⟨rfl, DEnds.over h2 ((HW0.out.trans hw1).trans hw2) ho2⟩
  rw [if_neg ho2]
  have ho2 : s2.over = false := by simpa using ho2
  go_enter Try.func104, Try.ntmps104
  go_wp2_with (first
    | (go_at_call 33; (with_reducible refine (H1.out _ _ _ _ H0.out).mono ?_); rintro e w1 hE; obtain ⟨rfl, κ1, evv1, Y1, h1, hw1⟩ := hE.to_on ho1)
    | (go_at_call 33; (with_reducible refine (H2.out _ _ _ _ h1).mono ?_); rintro e w2 hE; obtain ⟨rfl, κ2, evv2, Y2, h2, hw2⟩ := hE.to_on ho2)
    | (go_at_call 100; (refine (truth_any _ _).mono ?_); rintro e w3 ⟨rfl, rfl⟩)
    | fail)
  go_ret
  exact DEnds.on h2 ((HW0.out.trans hw1).trans hw2) ho2
set_option maxRecDepth 100000 in
set_option maxHeartbeats 2000000 in
theorem do_ge {k q2 q3 : Int} (N : Int) (h : DM K κ evv Y s k W) {s1 s2 : St} {a b : Int} (h1 : NodeOk K k s (s1, a) q2) (h2 : s1.over = false → NodeOk K q2 s1 (s2, b) q3) :
    Calls Try.prog 105 #[.agg #[], .pointer (some ⟨K.g, 0, none⟩), .int .i64 N] W (DEnds K κ (if s1.over = true then (s1, 0) else if s2.over = true then (s2, 0) else (s2, b01 (decide (b ≤ a)))) q3 W) := by
  have hb0 := (Below.refl W.heap.size W).alloc (Nat.le_refl _) (.cells #[] 96)
  have H0 := Lib.hid (h.below hb0)
  have HW0 := Lib.hid ((Went.refl κ W).below hb0)
  clear h hb0
  have H1 := Lib.hid h1
  clear h1
  by_cases ho1 : s1.over = true
  · rw [if_pos ho1]
    clear h2
    go_enter Try.func105, Try.ntmps105
    go_wp2_with (first
      | (go_at_call 33; (with_reducible refine (H1.out _ _ _ _ H0.out).mono ?_); rintro e w1 hE; obtain ⟨rfl, κ1, evv1, Y1, pos1, h1, hw1⟩ := hE.to_over ho1)
      | fail)
    exact ⟨rfl, DEnds.over h1 (HW0.out.trans hw1) ho1⟩
  rw [if_neg ho1]
  have ho1 : s1.over = false := by simpa using ho1
  have H2 := Lib.hid (h2 ho1)
  clear h2
  by_cases ho2 : s2.over = true
  · rw [if_pos ho2]
    go_enter Try.func105, Try.ntmps105
    go_wp2_with (first
      | (go_at_call 33; (with_reducible refine (H1.out _ _ _ _ H0.out).mono ?_); rintro e w1 hE; obtain ⟨rfl, κ1, evv1, Y1, h1, hw1⟩ := hE.to_on ho1)
      | (go_at_call 33; (with_reducible refine (H2.out _ _ _ _ h1).mono ?_); rintro e w2 hE; obtain ⟨rfl, κ2, evv2, Y2, pos2, h2, hw2⟩ := hE.to_over ho2)
      | fail)
    exact ⟨rfl, DEnds.over h2 ((HW0.out.trans hw1).trans hw2) ho2⟩
  rw [if_neg ho2]
  have ho2 : s2.over = false := by simpa using ho2
  go_enter Try.func105, Try.ntmps105
  go_wp2_with (first
    | (go_at_call 33; (with_reducible refine (H1.out _ _ _ _ H0.out).mono ?_); rintro e w1 hE; obtain ⟨rfl, κ1, evv1, Y1, h1, hw1⟩ := hE.to_on ho1)
    | (go_at_call 33; (with_reducible refine (H2.out _ _ _ _ h1).mono ?_); rintro e w2 hE; obtain ⟨rfl, κ2, evv2, Y2, h2, hw2⟩ := hE.to_on ho2)
    | (go_at_call 100; (refine (truth_any _ _).mono ?_); rintro e w3 ⟨rfl, rfl⟩)
    | fail)
  go_ret
  exact DEnds.on h2 ((HW0.out.trans hw1).trans hw2) ho2
end
end Go.Proofs.Ytodejloonfkkmaa.Dir
