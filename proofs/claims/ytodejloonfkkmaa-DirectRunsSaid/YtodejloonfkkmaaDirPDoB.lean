/-
  Package direct, walked: what nodes do that divide, that choose, that store.
-/
import Derived.Test.YtodejloonfkkmaaDirPDoA
set_option linter.unusedVariables false
set_option linter.unusedSimpArgs false
namespace Go.Proofs.Ytodejloonfkkmaa.Dir
open Go.RowKit Mem _root_.Go.Proofs.Ytodejloonfkkmaa.Arena _root_.Go.Proofs.Ytodejloonfkkmaa.Kinds _root_.Go.Proofs.Ytodejloonfkkmaa.Path _root_.Go.Proofs.Ytodejloonfkkmaa.Cat _root_.Go.Proofs.Ytodejloonfkkmaa.Suite _root_.Go.Proofs.Ytodejloonfkkmaa.Mach
attribute [local go_sem ↓] Go.wp_at_zero Go.wp_at_succ

section
variable {K : DK} {κ : Nat → Nat} {evv : Value} {Y : List ((Option Addr × Nat) × List Int)} {s : St} {pos : Int} {W W' : World}
/-- What a divisor comes to. -/
def dvs (r : St × Int) : St × Int := if r.1.over = true then r else if r.2 = 0 then (r.1.stop 1 0, 0) else r
set_option maxRecDepth 100000 in
set_option maxHeartbeats 2000000 in
theorem divisor_any {k q2 : Int} (h : DM K κ evv Y s k W) {s1 : St} {a : Int} (h1 : NodeOk K k s (s1, a) q2) : Calls Try.prog 97 #[.pointer (some ⟨K.g, 0, none⟩)] W (DEnds K κ (dvs (s1, a)) q2 W) := by
  unfold dvs
  simp only
  have H0 := Lib.hid h
  have H1 := Lib.hid h1
  clear h h1
  by_cases ho1 : s1.over = true
  · rw [if_pos ho1]
    go_enter Try.func97, Try.ntmps97
    go_wp2_with (first
      | (go_at_call 33; (with_reducible refine (H1.out _ _ _ _ H0.out).mono ?_); rintro e w1 hE; obtain ⟨rfl, κ1, evv1, Y1, pos1, h1, hw1⟩ := hE.to_over ho1)
      | fail)
    exact ⟨rfl, DEnds.over h1 (hw1) ho1⟩
  rw [if_neg ho1]
  have ho1 : s1.over = false := by simpa using ho1
  by_cases ha : a = 0
  · subst ha
    rw [if_pos rfl]
    go_enter Try.func97, Try.ntmps97
    go_wp2_with (first
      | (go_at_call 33; (with_reducible refine (H1.out _ _ _ _ H0.out).mono ?_); rintro e w1 hE; obtain ⟨rfl, κ1, evv1, Y1, h1, hw1⟩ := hE.to_on ho1)
      | (go_at_call 34; (with_reducible refine (without_any 1 _).mono ?_); rintro e w3 ⟨rfl, hb3⟩)
      | fail)
    exact ⟨rfl, DEnds.stopped (h1.below hb3) (hw1.below hb3) ho1 1 0⟩
  rw [if_neg ha]
  have e1 : (a == 0) = false := by simpa using ha
  go_enter Try.func97, Try.ntmps97
  go_wp2_with (first
    | (go_at_call 33; (with_reducible refine (H1.out _ _ _ _ H0.out).mono ?_); rintro e w1 hE; obtain ⟨rfl, κ1, evv1, Y1, h1, hw1⟩ := hE.to_on ho1)
    | fail)
  go_ret
  exact DEnds.on h1 hw1 ho1
set_option maxRecDepth 100000 in
set_option maxHeartbeats 2000000 in
theorem do_div {k q2 q3 : Int} (N : Int) (h : DM K κ evv Y s k W) {s1 s2 : St} {a b : Int} (h1 : NodeOk K k s (s1, a) q2) (h2 : s1.over = false → NodeOk K q2 s1 (s2, b) q3) :
    Calls Try.prog 96 #[.agg #[], .pointer (some ⟨K.g, 0, none⟩), .int .i64 N] W (DEnds K κ (if s1.over = true then (s1, 0) else if s2.over = true then (s2, 0) else if b = 0 then (s2.stop 1 0, 0) else (s2, IntKind.i64.wrap (a.tdiv b))) q3 W) := by
  have hb0 := (Below.refl W.heap.size W).alloc (Nat.le_refl _) (.cells #[] 89)
  have H0 := Lib.hid (h.below hb0)
  have HW0 := Lib.hid ((Went.refl κ W).below hb0)
  clear h hb0
  have H1 := Lib.hid h1
  clear h1
  by_cases ho1 : s1.over = true
  · rw [if_pos ho1]
    clear h2
    go_enter Try.func96, Try.ntmps96
    go_wp2_with (first
      | (go_at_call 33; (with_reducible refine (H1.out _ _ _ _ H0.out).mono ?_); rintro e w1 hE; obtain ⟨rfl, κ1, evv1, Y1, pos1, h1, hw1⟩ := hE.to_over ho1)
      | fail)
    exact ⟨rfl, DEnds.over h1 (HW0.out.trans hw1) ho1⟩
  rw [if_neg ho1]
  have ho1 : s1.over = false := by simpa using ho1
  have H2 := Lib.hid (fun κ evv Y W h => divisor_any (κ := κ) (evv := evv) (Y := Y) (W := W) h (h2 ho1))
  clear h2
  unfold dvs at H2
  simp only at H2
  by_cases ho2 : s2.over = true
  · rw [if_pos ho2] at H2 ⊢
    go_enter Try.func96, Try.ntmps96
    go_wp2_with (first
      | (go_at_call 33; (with_reducible refine (H1.out _ _ _ _ H0.out).mono ?_); rintro e w1 hE; obtain ⟨rfl, κ1, evv1, Y1, h1, hw1⟩ := hE.to_on ho1)
      | (go_at_call 97; (with_reducible refine (H2.out _ _ _ _ h1).mono ?_); rintro e w2 hE; obtain ⟨rfl, κ2, evv2, Y2, pos2, h2, hw2⟩ := hE.to_over ho2)
      | fail)
    exact ⟨rfl, DEnds.over h2 ((HW0.out.trans hw1).trans hw2) ho2⟩
  rw [if_neg ho2] at H2 ⊢
  have ho2 : s2.over = false := by simpa using ho2
  by_cases hz : b = 0
  · rw [if_pos hz] at H2 ⊢
    have ho3 : (s2.stop 1 0, (0 : Int)).1.over = true := stop_over _ _ _
    go_enter Try.func96, Try.ntmps96
    go_wp2_with (first
      | (go_at_call 33; (with_reducible refine (H1.out _ _ _ _ H0.out).mono ?_); rintro e w1 hE; obtain ⟨rfl, κ1, evv1, Y1, h1, hw1⟩ := hE.to_on ho1)
      | (go_at_call 97; (with_reducible refine (H2.out _ _ _ _ h1).mono ?_); rintro e w2 hE; obtain ⟨rfl, κ2, evv2, Y2, pos2, h2, hw2⟩ := hE.to_over ho3)
      | fail)
    exact ⟨rfl, DEnds.over h2 ((HW0.out.trans hw1).trans hw2) ho3⟩
  rw [if_neg hz] at H2 ⊢
  go_enter Try.func96, Try.ntmps96
  go_wp2_with (first
    | (go_at_call 33; (with_reducible refine (H1.out _ _ _ _ H0.out).mono ?_); rintro e w1 hE; obtain ⟨rfl, κ1, evv1, Y1, h1, hw1⟩ := hE.to_on ho1)
    | (go_at_call 97; (with_reducible refine (H2.out _ _ _ _ h1).mono ?_); rintro e w2 hE; obtain ⟨rfl, κ2, evv2, Y2, h2, hw2⟩ := hE.to_on ho2)
    | fail)
  go_ret
  exact (DEnds.on h2 ((HW0.out.trans hw1).trans hw2) ho2).cast (by rw [IntWalk.i64_left])
set_option maxRecDepth 100000 in
set_option maxHeartbeats 2000000 in
theorem do_mod {k q2 q3 : Int} (N : Int) (h : DM K κ evv Y s k W) {s1 s2 : St} {a b : Int} (h1 : NodeOk K k s (s1, a) q2) (h2 : s1.over = false → NodeOk K q2 s1 (s2, b) q3) :
    Calls Try.prog 98 #[.agg #[], .pointer (some ⟨K.g, 0, none⟩), .int .i64 N] W (DEnds K κ (if s1.over = true then (s1, 0) else if s2.over = true then (s2, 0) else if b = 0 then (s2.stop 1 0, 0) else (s2, a.tmod b)) q3 W) := by
  have hb0 := (Below.refl W.heap.size W).alloc (Nat.le_refl _) (.cells #[] 90)
  have H0 := Lib.hid (h.below hb0)
  have HW0 := Lib.hid ((Went.refl κ W).below hb0)
  clear h hb0
  have H1 := Lib.hid h1
  clear h1
  by_cases ho1 : s1.over = true
  · rw [if_pos ho1]
    clear h2
    go_enter Try.func98, Try.ntmps98
    go_wp2_with (first
      | (go_at_call 33; (with_reducible refine (H1.out _ _ _ _ H0.out).mono ?_); rintro e w1 hE; obtain ⟨rfl, κ1, evv1, Y1, pos1, h1, hw1⟩ := hE.to_over ho1)
      | fail)
    exact ⟨rfl, DEnds.over h1 (HW0.out.trans hw1) ho1⟩
  rw [if_neg ho1]
  have ho1 : s1.over = false := by simpa using ho1
  have H2 := Lib.hid (fun κ evv Y W h => divisor_any (κ := κ) (evv := evv) (Y := Y) (W := W) h (h2 ho1))
  clear h2
  unfold dvs at H2
  simp only at H2
  by_cases ho2 : s2.over = true
  · rw [if_pos ho2] at H2 ⊢
    go_enter Try.func98, Try.ntmps98
    go_wp2_with (first
      | (go_at_call 33; (with_reducible refine (H1.out _ _ _ _ H0.out).mono ?_); rintro e w1 hE; obtain ⟨rfl, κ1, evv1, Y1, h1, hw1⟩ := hE.to_on ho1)
      | (go_at_call 97; (with_reducible refine (H2.out _ _ _ _ h1).mono ?_); rintro e w2 hE; obtain ⟨rfl, κ2, evv2, Y2, pos2, h2, hw2⟩ := hE.to_over ho2)
      | fail)
    exact ⟨rfl, DEnds.over h2 ((HW0.out.trans hw1).trans hw2) ho2⟩
  rw [if_neg ho2] at H2 ⊢
  have ho2 : s2.over = false := by simpa using ho2
  by_cases hz : b = 0
  · rw [if_pos hz] at H2 ⊢
    have ho3 : (s2.stop 1 0, (0 : Int)).1.over = true := stop_over _ _ _
    go_enter Try.func98, Try.ntmps98
    go_wp2_with (first
      | (go_at_call 33; (with_reducible refine (H1.out _ _ _ _ H0.out).mono ?_); rintro e w1 hE; obtain ⟨rfl, κ1, evv1, Y1, h1, hw1⟩ := hE.to_on ho1)
      | (go_at_call 97; (with_reducible refine (H2.out _ _ _ _ h1).mono ?_); rintro e w2 hE; obtain ⟨rfl, κ2, evv2, Y2, pos2, h2, hw2⟩ := hE.to_over ho3)
      | fail)
    exact ⟨rfl, DEnds.over h2 ((HW0.out.trans hw1).trans hw2) ho3⟩
  rw [if_neg hz] at H2 ⊢
  go_enter Try.func98, Try.ntmps98
  go_wp2_with (first
    | (go_at_call 33; (with_reducible refine (H1.out _ _ _ _ H0.out).mono ?_); rintro e w1 hE; obtain ⟨rfl, κ1, evv1, Y1, h1, hw1⟩ := hE.to_on ho1)
    | (go_at_call 97; (with_reducible refine (H2.out _ _ _ _ h1).mono ?_); rintro e w2 hE; obtain ⟨rfl, κ2, evv2, Y2, h2, hw2⟩ := hE.to_on ho2)
    | fail)
  go_ret
  exact DEnds.on h2 ((HW0.out.trans hw1).trans hw2) ho2
set_option maxRecDepth 100000 in
set_option maxHeartbeats 2000000 in
theorem do_and {k : Int} {q2 n : Nat} (N : Int) (h : DM K κ evv Y s k W) {s1 s2 : St} {a b : Int} (h1 : NodeOk K k s (s1, a) q2) (hn : scan 1 (K.p.xs.drop q2) = some n) (h2 : s1.over = false → a ≠ 0 → NodeOk K q2 s1 (s2, b) ((q2 + n : Nat) : Int)) :
    Calls Try.prog 106 #[.agg #[], .pointer (some ⟨K.g, 0, none⟩), .int .i64 N] W (DEnds K κ (if s1.over = true then (s1, 0) else if a = 0 then (s1, 0) else (s2, b)) ((q2 + n : Nat) : Int) W) := by
  have hb0 := (Below.refl W.heap.size W).alloc (Nat.le_refl _) (.cells #[] 97)
  have H0 := Lib.hid (h.below hb0)
  have HW0 := Lib.hid ((Went.refl κ W).below hb0)
  clear h hb0
  have H1 := Lib.hid h1
  clear h1
  by_cases ho1 : s1.over = true
  · rw [if_pos ho1]
    clear h2
    go_enter Try.func106, Try.ntmps106
    go_wp2_with (first
      | (go_at_call 33; (with_reducible refine (H1.out _ _ _ _ H0.out).mono ?_); rintro e w1 hE; obtain ⟨rfl, κ1, evv1, Y1, pos1, h1, hw1⟩ := hE.to_over ho1)
      | fail)
    exact ⟨rfl, DEnds.over h1 (HW0.out.trans hw1) ho1⟩
  rw [if_neg ho1]
  have ho1 : s1.over = false := by simpa using ho1
  by_cases ha : a = 0
  · subst ha
    rw [if_pos rfl]
    have HN := Lib.hid hn
    clear h2 hn
    go_enter Try.func106, Try.ntmps106
    go_wp2_with (first
      | (go_at_call 33; (with_reducible refine (H1.out _ _ _ _ H0.out).mono ?_); rintro e w1 hE; obtain ⟨rfl, κ1, evv1, Y1, h1, hw1⟩ := hE.to_on ho1)
      | (go_at_call 86; (with_reducible refine (pass_any h1 HN.out).mono ?_); rintro e w4 ⟨rfl, h4, hw4⟩)
      | fail)
    go_ret
    exact DEnds.on h4 ((HW0.out.trans hw1).trans hw4) ho1
  rw [if_neg ha]
  have e1 : (a == 0) = false := by simpa using ha
  have H2 := Lib.hid (h2 ho1 ha)
  clear h2 hn
  generalize ((q2 + n : Nat) : Int) = q3 at *
  by_cases ho2 : s2.over = true
  · go_enter Try.func106, Try.ntmps106
    go_wp2_with (first
      | (go_at_call 33; (with_reducible refine (H1.out _ _ _ _ H0.out).mono ?_); rintro e w1 hE; obtain ⟨rfl, κ1, evv1, Y1, h1, hw1⟩ := hE.to_on ho1)
      | (go_at_call 33; (with_reducible refine (H2.out _ _ _ _ h1).mono ?_); rintro e w2 hE; obtain ⟨rfl, κ2, evv2, Y2, pos2, h2, hw2⟩ := hE.to_over ho2)
      | fail)
    exact ⟨rfl, DEnds.over h2 ((HW0.out.trans hw1).trans hw2) ho2⟩
  have ho2 : s2.over = false := by simpa using ho2
  go_enter Try.func106, Try.ntmps106
  go_wp2_with (first
    | (go_at_call 33; (with_reducible refine (H1.out _ _ _ _ H0.out).mono ?_); rintro e w1 hE; obtain ⟨rfl, κ1, evv1, Y1, h1, hw1⟩ := hE.to_on ho1)
    | (go_at_call 33; (with_reducible refine (H2.out _ _ _ _ h1).mono ?_); rintro e w2 hE; obtain ⟨rfl, κ2, evv2, Y2, h2, hw2⟩ := hE.to_on ho2)
    | fail)
  go_ret
  exact DEnds.on h2 ((HW0.out.trans hw1).trans hw2) ho2
set_option maxRecDepth 100000 in
set_option maxHeartbeats 2000000 in
theorem do_or {k : Int} {q2 n : Nat} (N : Int) (h : DM K κ evv Y s k W) {s1 s2 : St} {a b : Int} (h1 : NodeOk K k s (s1, a) q2) (hn : scan 1 (K.p.xs.drop q2) = some n) (h2 : s1.over = false → a ≠ 1 → NodeOk K q2 s1 (s2, b) ((q2 + n : Nat) : Int)) :
    Calls Try.prog 107 #[.agg #[], .pointer (some ⟨K.g, 0, none⟩), .int .i64 N] W (DEnds K κ (if s1.over = true then (s1, 0) else if a = 1 then (s1, 1) else (s2, b)) ((q2 + n : Nat) : Int) W) := by
  have hb0 := (Below.refl W.heap.size W).alloc (Nat.le_refl _) (.cells #[] 98)
  have H0 := Lib.hid (h.below hb0)
  have HW0 := Lib.hid ((Went.refl κ W).below hb0)
  clear h hb0
  have H1 := Lib.hid h1
  clear h1
  by_cases ho1 : s1.over = true
  · rw [if_pos ho1]
    clear h2
    go_enter Try.func107, Try.ntmps107
    go_wp2_with (first
      | (go_at_call 33; (with_reducible refine (H1.out _ _ _ _ H0.out).mono ?_); rintro e w1 hE; obtain ⟨rfl, κ1, evv1, Y1, pos1, h1, hw1⟩ := hE.to_over ho1)
      | fail)
    exact ⟨rfl, DEnds.over h1 (HW0.out.trans hw1) ho1⟩
  rw [if_neg ho1]
  have ho1 : s1.over = false := by simpa using ho1
  by_cases ha : a = 1
  · subst ha
    rw [if_pos rfl]
    have HN := Lib.hid hn
    clear h2 hn
    go_enter Try.func107, Try.ntmps107
    go_wp2_with (first
      | (go_at_call 33; (with_reducible refine (H1.out _ _ _ _ H0.out).mono ?_); rintro e w1 hE; obtain ⟨rfl, κ1, evv1, Y1, h1, hw1⟩ := hE.to_on ho1)
      | (go_at_call 86; (with_reducible refine (pass_any h1 HN.out).mono ?_); rintro e w4 ⟨rfl, h4, hw4⟩)
      | fail)
    go_ret
    exact DEnds.on h4 ((HW0.out.trans hw1).trans hw4) ho1
  rw [if_neg ha]
  have e1 : (a == 1) = false := by simpa using ha
  have H2 := Lib.hid (h2 ho1 ha)
  clear h2 hn
  generalize ((q2 + n : Nat) : Int) = q3 at *
  by_cases ho2 : s2.over = true
  · go_enter Try.func107, Try.ntmps107
    go_wp2_with (first
      | (go_at_call 33; (with_reducible refine (H1.out _ _ _ _ H0.out).mono ?_); rintro e w1 hE; obtain ⟨rfl, κ1, evv1, Y1, h1, hw1⟩ := hE.to_on ho1)
      | (go_at_call 33; (with_reducible refine (H2.out _ _ _ _ h1).mono ?_); rintro e w2 hE; obtain ⟨rfl, κ2, evv2, Y2, pos2, h2, hw2⟩ := hE.to_over ho2)
      | fail)
    exact ⟨rfl, DEnds.over h2 ((HW0.out.trans hw1).trans hw2) ho2⟩
  have ho2 : s2.over = false := by simpa using ho2
  go_enter Try.func107, Try.ntmps107
  go_wp2_with (first
    | (go_at_call 33; (with_reducible refine (H1.out _ _ _ _ H0.out).mono ?_); rintro e w1 hE; obtain ⟨rfl, κ1, evv1, Y1, h1, hw1⟩ := hE.to_on ho1)
    | (go_at_call 33; (with_reducible refine (H2.out _ _ _ _ h1).mono ?_); rintro e w2 hE; obtain ⟨rfl, κ2, evv2, Y2, h2, hw2⟩ := hE.to_on ho2)
    | fail)
  go_ret
  exact DEnds.on h2 ((HW0.out.trans hw1).trans hw2) ho2
set_option maxRecDepth 100000 in
set_option maxHeartbeats 2000000 in
theorem do_giveBack {k q2 : Int} (N : Int) (h : DM K κ evv Y s k W) {s1 : St} {a : Int} (h1 : NodeOk K k s (s1, a) q2) (q3 : Int) :
    Calls Try.prog 114 #[.agg #[], .pointer (some ⟨K.g, 0, none⟩), .int .i64 N] W (DEnds K κ (if s1.over = true then (s1, 0) else (s1.stop 0 a, 0)) q3 W) := by
  have hb0 := (Below.refl W.heap.size W).alloc (Nat.le_refl _) (.cells #[] 104)
  have H0 := Lib.hid (h.below hb0)
  have HW0 := Lib.hid ((Went.refl κ W).below hb0)
  clear h hb0
  have H1 := Lib.hid h1
  clear h1
  by_cases ho1 : s1.over = true
  · rw [if_pos ho1]
    go_enter Try.func114, Try.ntmps114
    go_wp2_with (first
      | (go_at_call 33; (with_reducible refine (H1.out _ _ _ _ H0.out).mono ?_); rintro e w1 hE; obtain ⟨rfl, κ1, evv1, Y1, pos1, h1, hw1⟩ := hE.to_over ho1)
      | fail)
    exact ⟨rfl, DEnds.over h1 (HW0.out.trans hw1) ho1⟩
  rw [if_neg ho1]
  have ho1 : s1.over = false := by simpa using ho1
  go_enter Try.func114, Try.ntmps114
  go_wp2_with (first
    | (go_at_call 33; (with_reducible refine (H1.out _ _ _ _ H0.out).mono ?_); rintro e w1 hE; obtain ⟨rfl, κ1, evv1, Y1, h1, hw1⟩ := hE.to_on ho1)
    | fail)
  exact ⟨rfl, DEnds.stopped h1 (HW0.out.trans hw1) ho1 0 a⟩
set_option maxRecDepth 100000 in
set_option maxHeartbeats 2000000 in
theorem do_branch {k : Int} {q2 n2 n3 : Nat} (N : Int) (h : DM K κ evv Y s k W) {s1 s2 : St} {a b : Int} (h1 : NodeOk K k s (s1, a) q2) (hn2 : scan 1 (K.p.xs.drop q2) = some n2) (hn3 : scan 1 (K.p.xs.drop (q2 + n2)) = some n3)
    (h2 : s1.over = false → (a = 1 → NodeOk K q2 s1 (s2, b) ((q2 + n2 : Nat) : Int)) ∧ (a ≠ 1 → NodeOk K ((q2 + n2 : Nat) : Int) s1 (s2, b) ((q2 + n2 + n3 : Nat) : Int))) :
    Calls Try.prog 112 #[.agg #[], .pointer (some ⟨K.g, 0, none⟩), .int .i64 N] W (DEnds K κ (if s1.over = true then (s1, 0) else (s2, 0)) ((q2 + n2 + n3 : Nat) : Int) W) := by
  have hb0 := (Below.refl W.heap.size W).alloc (Nat.le_refl _) (.cells #[] 102)
  have H0 := Lib.hid (h.below hb0)
  have HW0 := Lib.hid ((Went.refl κ W).below hb0)
  clear h hb0
  have H1 := Lib.hid h1
  clear h1
  by_cases ho1 : s1.over = true
  · rw [if_pos ho1]
    clear h2
    go_enter Try.func112, Try.ntmps112
    go_wp2_with (first
      | (go_at_call 33; (with_reducible refine (H1.out _ _ _ _ H0.out).mono ?_); rintro e w1 hE; obtain ⟨rfl, κ1, evv1, Y1, pos1, h1, hw1⟩ := hE.to_over ho1)
      | fail)
    exact ⟨rfl, DEnds.over h1 (HW0.out.trans hw1) ho1⟩
  rw [if_neg ho1]
  have ho1 : s1.over = false := by simpa using ho1
  have HN2 := Lib.hid hn2
  have HN3 := Lib.hid hn3
  clear hn2 hn3
  by_cases ha : a = 1
  · subst ha
    have H2 := Lib.hid ((h2 ho1).1 rfl)
    clear h2
    by_cases ho2 : s2.over = true
    · go_enter Try.func112, Try.ntmps112
      go_wp2_with (first
        | (go_at_call 33; (with_reducible refine (H1.out _ _ _ _ H0.out).mono ?_); rintro e w1 hE; obtain ⟨rfl, κ1, evv1, Y1, h1, hw1⟩ := hE.to_on ho1)
        | (go_at_call 33; (with_reducible refine (H2.out _ _ _ _ h1).mono ?_); rintro e w2 hE; obtain ⟨rfl, κ2, evv2, Y2, pos2, h2, hw2⟩ := hE.to_over ho2)
        | fail)
      exact ⟨rfl, DEnds.over h2 ((HW0.out.trans hw1).trans hw2) ho2⟩
    have ho2 : s2.over = false := by simpa using ho2
    go_enter Try.func112, Try.ntmps112
    go_wp2_with (first
      | (go_at_call 33; (with_reducible refine (H1.out _ _ _ _ H0.out).mono ?_); rintro e w1 hE; obtain ⟨rfl, κ1, evv1, Y1, h1, hw1⟩ := hE.to_on ho1)
      | (go_at_call 33; (with_reducible refine (H2.out _ _ _ _ h1).mono ?_); rintro e w2 hE; obtain ⟨rfl, κ2, evv2, Y2, h2, hw2⟩ := hE.to_on ho2)
      | (go_at_call 86; (with_reducible refine (pass_any h2 HN3.out).mono ?_); rintro e w4 ⟨rfl, h4, hw4⟩)
      | fail)
    go_ret
    exact DEnds.on h4 (((HW0.out.trans hw1).trans hw2).trans hw4) ho2
  have e1 : (a == 1) = false := by simpa using ha
  have H2 := Lib.hid ((h2 ho1).2 ha)
  clear h2
  by_cases ho2 : s2.over = true
  · go_enter Try.func112, Try.ntmps112
    go_wp2_with (first
      | (go_at_call 33; (with_reducible refine (H1.out _ _ _ _ H0.out).mono ?_); rintro e w1 hE; obtain ⟨rfl, κ1, evv1, Y1, h1, hw1⟩ := hE.to_on ho1)
      | (go_at_call 86; (with_reducible refine (pass_any h1 HN2.out).mono ?_); rintro e w4 ⟨rfl, h4, hw4⟩)
      | (go_at_call 33; (with_reducible refine (H2.out _ _ _ _ h4).mono ?_); rintro e w2 hE; obtain ⟨rfl, κ2, evv2, Y2, pos2, h2, hw2⟩ := hE.to_over ho2)
      | fail)
    exact ⟨rfl, DEnds.over h2 (((HW0.out.trans hw1).trans hw4).trans hw2) ho2⟩
  have ho2 : s2.over = false := by simpa using ho2
  go_enter Try.func112, Try.ntmps112
  go_wp2_with (first
    | (go_at_call 33; (with_reducible refine (H1.out _ _ _ _ H0.out).mono ?_); rintro e w1 hE; obtain ⟨rfl, κ1, evv1, Y1, h1, hw1⟩ := hE.to_on ho1)
    | (go_at_call 86; (with_reducible refine (pass_any h1 HN2.out).mono ?_); rintro e w4 ⟨rfl, h4, hw4⟩)
    | (go_at_call 33; (with_reducible refine (H2.out _ _ _ _ h4).mono ?_); rintro e w2 hE; obtain ⟨rfl, κ2, evv2, Y2, h2, hw2⟩ := hE.to_on ho2)
    | fail)
  go_ret
  exact DEnds.on h2 (((HW0.out.trans hw1).trans hw4).trans hw2) ho2
set_option maxRecDepth 100000 in
set_option maxHeartbeats 2000000 in
theorem do_variable {k : Int} (h : DM K κ evv Y s k W) (ho : s.over = false) {n : Nat} (hn : n < K.p.vs.length) {x : Int} (hx : dcell K.p.vs s n = [x]) :
    Calls Try.prog 88 #[.agg #[], .pointer (some ⟨K.g, 0, none⟩), .int .i64 n] W (DEnds K κ (s, x) k W) := by
  have hb0 := (Below.refl W.heap.size W).alloc (Nat.le_refl _) (.cells #[] 82)
  have H0 := Lib.hid (h.below hb0)
  have HW0 := Lib.hid ((Went.refl κ W).below hb0)
  clear h hb0
  obtain ⟨cb, cc, b, c, e1, y1, -, y3, -, -⟩ := H0.out.var hn (by rw [hx]; exact Nat.zero_lt_one)
  have c8 : (W.alloc (.cells #[] 82)).cell? ⟨K.g, 8, none⟩ = some K.cv := H0.out.cell 8
  rw [e1] at c8
  have y0 := y3 0 x (by rw [hx]; rfl)
  rw [hx] at y1
  have i1 : (n : Int) < (K.p.vs.length : Int) := by omega
  have i2 : (0 : Int) ≤ (n : Int) := by omega
  clear y3 hx e1 hn
  go_enter Try.func88, Try.ntmps88
  go_wp2_with fail
  go_ret
  exact DEnds.on H0.out HW0.out ho
set_option maxRecDepth 100000 in
set_option maxHeartbeats 2000000 in
theorem do_element {k q2 : Int} (h : DM K κ evv Y s k W) {s1 : St} {a : Int} (h1 : NodeOk K k s (s1, a) q2) {n : Nat} (hn : n < K.p.vs.length) (hp : 0 < (dcell K.p.vs s1 n).length) :
    Calls Try.prog 89 #[.agg #[], .pointer (some ⟨K.g, 0, none⟩), .int .i64 n] W (DEnds K κ (if s1.over = true then (s1, 0) else if a < 0 ∨ ((dcell K.p.vs s1 n).length : Int) ≤ a then (s1.stop 2 0, 0) else (s1, (dcell K.p.vs s1 n).getD a.toNat 0)) q2 W) := by
  have hb0 := (Below.refl W.heap.size W).alloc (Nat.le_refl _) (.cells #[] 83)
  have H0 := Lib.hid (h.below hb0)
  have HW0 := Lib.hid ((Went.refl κ W).below hb0)
  clear h hb0
  have H1 := Lib.hid h1
  have HN := Lib.hid hn
  have HP := Lib.hid hp
  clear h1 hn hp
  by_cases ho1 : s1.over = true
  · rw [if_pos ho1]
    go_enter Try.func89, Try.ntmps89
    go_wp2_with (first
      | (go_at_call 33; (with_reducible refine (H1.out _ _ _ _ H0.out).mono ?_); rintro e w1 hE; obtain ⟨rfl, κ1, evv1, Y1, pos1, h1, hw1⟩ := hE.to_over ho1)
      | fail)
    exact ⟨rfl, DEnds.over h1 (HW0.out.trans hw1) ho1⟩
  rw [if_neg ho1]
  have ho1 : s1.over = false := by simpa using ho1
  by_cases hi : a < 0 ∨ ((dcell K.p.vs s1 n).length : Int) ≤ a
  · rw [if_pos hi]
    have HI := Lib.hid hi
    clear hi
    go_enter Try.func89, Try.ntmps89
    go_wp2_with (first
      | (go_at_call 33; (with_reducible refine (H1.out _ _ _ _ H0.out).mono ?_); rintro e w1 hE; obtain ⟨rfl, κ1, evv1, Y1, h1, hw1⟩ := hE.to_on ho1)
      | (go_at_call 90; (with_reducible refine (place_out h1 HN.out HP.out HI.out).mono ?_); rintro e w4 ⟨rfl, h4, hw4⟩)
      | fail)
    exact ⟨rfl, DEnds.stopped h4 ((HW0.out.trans hw1).trans hw4) ho1 2 0⟩
  rw [if_neg hi]
  obtain ⟨i, rfl⟩ := Int.eq_ofNat_of_zero_le (show 0 ≤ a by omega)
  have hil : i < (dcell K.p.vs s1 n).length := by omega
  obtain ⟨x, hx⟩ : ∃ x, (dcell K.p.vs s1 n)[i]? = some x := ⟨_, List.getElem?_eq_getElem hil⟩
  rw [Int.toNat_natCast, List.getD_eq_getElem?_getD, hx]
  have HI := Lib.hid hil
  have HX := Lib.hid hx
  clear hi hil hx
  go_enter Try.func89, Try.ntmps89
  go_wp2_with (first
    | (go_at_call 33; (with_reducible refine (H1.out _ _ _ _ H0.out).mono ?_); rintro e w1 hE; obtain ⟨rfl, κ1, evv1, Y1, h1, hw1⟩ := hE.to_on ho1)
    | (go_at_call 90; (with_reducible refine (place_in h1 HN.out HI.out).mono ?_); rintro e w4 ⟨rfl, bb, cc, rfl, hy4, hc4, hf4, hk4⟩; have hc5 := hc4 i x HX.out; clear hc4 hf4 hy4 hk4)
    | fail)
  go_ret
  exact DEnds.on h1 (HW0.out.trans hw1) ho1
set_option maxRecDepth 100000 in
set_option maxHeartbeats 2000000 in
theorem do_set {k q2 : Int} (h : DM K κ evv Y s k W) {s1 : St} {a : Int} (h1 : NodeOk K k s (s1, a) q2) (he : s1.ev.length < 1000000) {n : Nat} (hn : n < K.p.vs.length) {x : Int} (hx : dcell K.p.vs s1 n = [x]) {s2 : St} (hd : dcells K.p.vs s2 = (dcells K.p.vs s1).set n [a]) (hv : s2.ev = s1.ev ++ [((n : Int), -1, a)]) (hs : s2.steps = s1.steps) (ho2 : s1.over = false → s2.over = false) :
    Calls Try.prog 109 #[.agg #[], .pointer (some ⟨K.g, 0, none⟩), .int .i64 n] W (DEnds K κ (if s1.over = true then (s1, 0) else (s2, 0)) q2 W) := by
  have hb0 := (Below.refl W.heap.size W).alloc (Nat.le_refl _) (.cells #[] 100)
  have H0 := Lib.hid (h.below hb0)
  have HW0 := Lib.hid ((Went.refl κ W).below hb0)
  clear h hb0
  have H1 := Lib.hid h1
  have HN := Lib.hid hn
  have HE := Lib.hid he
  have HD := Lib.hid (show dcells K.p.vs s2 = (dcells K.p.vs s1).set n ([x].set 0 a) from hd)
  have HV := Lib.hid hv
  have HS := Lib.hid hs
  have HX := Lib.hid hx
  have i1 : (n : Int) < (K.p.vs.length : Int) := by omega
  have i2 : (0 : Int) ≤ (n : Int) := by omega
  clear h1 hn he hd hv hs hx
  by_cases ho1 : s1.over = true
  · rw [if_pos ho1]
    clear ho2
    go_enter Try.func109, Try.ntmps109
    go_wp2_with (first
      | (go_at_call 33; (with_reducible refine (H1.out _ _ _ _ H0.out).mono ?_); rintro e w1 hE; obtain ⟨rfl, κ1, evv1, Y1, pos1, h1, hw1⟩ := hE.to_over ho1)
      | fail)
    exact ⟨rfl, DEnds.over h1 (HW0.out.trans hw1) ho1⟩
  rw [if_neg ho1]
  have ho1 : s1.over = false := by simpa using ho1
  have ho2 := ho2 ho1
  go_enter Try.func109, Try.ntmps109
  go_wp2_with (first
    | (go_at_call 33; (with_reducible refine (H1.out _ _ _ _ H0.out).mono ?_); rintro e w1 hE; obtain ⟨rfl, κ1, evv1, Y1, h1, hw1⟩ := hE.to_on ho1; obtain ⟨cb, cc, b, c, e1, y1, y2, -, -, -⟩ := h1.var HN.out (by rw [HX.out]; exact Nat.zero_lt_one); have c8 : w1.cell? ⟨K.g, 8, none⟩ = some K.cv := h1.cell 8; rw [e1] at c8; rw [HX.out] at y1 y2; have HY := Lib.hid y2; clear e1 y2)
    | (go_at_call 110; (with_reducible refine (store_any h1 HE.out HY.out (show 0 < 1 by decide) (n : Int) (-1) a HD.out HV.out HS.out).mono ?_); rintro e w5 ⟨rfl, κ5, evv5, Y5, h5, hw5⟩)
    | fail)
  go_ret
  exact DEnds.on h5 ((HW0.out.trans hw1).trans hw5) ho2
set_option maxRecDepth 100000 in
set_option maxHeartbeats 2000000 in
theorem do_put {k q2 q3 : Int} (h : DM K κ evv Y s k W) {s1 s2 : St} {a b : Int} (h1 : NodeOk K k s (s1, a) q2) (h2 : s1.over = false → NodeOk K q2 s1 (s2, b) q3) {n : Nat} (hn : n < K.p.vs.length) {s3 : St}
    (hA : s1.over = false → s2.ev.length < 1000000 ∧ 0 < (dcell K.p.vs s2 n).length ∧ (¬ (a < 0 ∨ ((dcell K.p.vs s2 n).length : Int) ≤ a) → dcells K.p.vs s3 = (dcells K.p.vs s2).set n ((dcell K.p.vs s2 n).set a.toNat b) ∧ s3.ev = s2.ev ++ [((n : Int), a, b)] ∧ s3.steps = s2.steps ∧ (s2.over = false → s3.over = false))) :
    Calls Try.prog 111 #[.agg #[], .pointer (some ⟨K.g, 0, none⟩), .int .i64 n] W (DEnds K κ (if s1.over = true then (s1, 0) else if s2.over = true then (s2, 0) else if a < 0 ∨ ((dcell K.p.vs s2 n).length : Int) ≤ a then (s2.stop 2 0, 0) else (s3, 0)) q3 W) := by
  have hb0 := (Below.refl W.heap.size W).alloc (Nat.le_refl _) (.cells #[] 101)
  have H0 := Lib.hid (h.below hb0)
  have HW0 := Lib.hid ((Went.refl κ W).below hb0)
  clear h hb0
  have H1 := Lib.hid h1
  have HN := Lib.hid hn
  clear h1 hn
  by_cases ho1 : s1.over = true
  · rw [if_pos ho1]
    clear h2 hA
    go_enter Try.func111, Try.ntmps111
    go_wp2_with (first
      | (go_at_call 33; (with_reducible refine (H1.out _ _ _ _ H0.out).mono ?_); rintro e w1 hE; obtain ⟨rfl, κ1, evv1, Y1, pos1, h1, hw1⟩ := hE.to_over ho1)
      | fail)
    exact ⟨rfl, DEnds.over h1 (HW0.out.trans hw1) ho1⟩
  rw [if_neg ho1]
  have ho1 : s1.over = false := by simpa using ho1
  have H2 := Lib.hid (h2 ho1)
  obtain ⟨he, hp, hd⟩ := hA ho1
  have HP := Lib.hid hp
  have HE := Lib.hid he
  clear h2 hp he hA
  by_cases ho2 : s2.over = true
  · rw [if_pos ho2]
    clear hd
    go_enter Try.func111, Try.ntmps111
    go_wp2_with (first
      | (go_at_call 33; (with_reducible refine (H1.out _ _ _ _ H0.out).mono ?_); rintro e w1 hE; obtain ⟨rfl, κ1, evv1, Y1, h1, hw1⟩ := hE.to_on ho1)
      | (go_at_call 33; (with_reducible refine (H2.out _ _ _ _ h1).mono ?_); rintro e w2 hE; obtain ⟨rfl, κ2, evv2, Y2, pos2, h2, hw2⟩ := hE.to_over ho2)
      | fail)
    exact ⟨rfl, DEnds.over h2 ((HW0.out.trans hw1).trans hw2) ho2⟩
  rw [if_neg ho2]
  have ho2 : s2.over = false := by simpa using ho2
  by_cases hi : a < 0 ∨ ((dcell K.p.vs s2 n).length : Int) ≤ a
  · rw [if_pos hi]
    have HI := Lib.hid hi
    clear hi hd
    go_enter Try.func111, Try.ntmps111
    go_wp2_with (first
      | (go_at_call 33; (with_reducible refine (H1.out _ _ _ _ H0.out).mono ?_); rintro e w1 hE; obtain ⟨rfl, κ1, evv1, Y1, h1, hw1⟩ := hE.to_on ho1)
      | (go_at_call 33; (with_reducible refine (H2.out _ _ _ _ h1).mono ?_); rintro e w2 hE; obtain ⟨rfl, κ2, evv2, Y2, h2, hw2⟩ := hE.to_on ho2)
      | (go_at_call 90; (with_reducible refine (place_out h2 HN.out HP.out HI.out).mono ?_); rintro e w4 ⟨rfl, h4, hw4⟩)
      | fail)
    exact ⟨rfl, DEnds.stopped h4 (((HW0.out.trans hw1).trans hw2).trans hw4) ho2 2 0⟩
  rw [if_neg hi]
  obtain ⟨hd, hv, hs, ho3⟩ := hd hi
  obtain ⟨i, rfl⟩ := Int.eq_ofNat_of_zero_le (show 0 ≤ a by omega)
  have hil : i < (dcell K.p.vs s2 n).length := by omega
  rw [Int.toNat_natCast] at hd
  have HD := Lib.hid hd
  have HV := Lib.hid hv
  have HS := Lib.hid hs
  have ho3 := ho3 ho2
  have HI := Lib.hid hil
  clear hi hil hd hv hs
  go_enter Try.func111, Try.ntmps111
  go_wp2_with (first
    | (go_at_call 33; (with_reducible refine (H1.out _ _ _ _ H0.out).mono ?_); rintro e w1 hE; obtain ⟨rfl, κ1, evv1, Y1, h1, hw1⟩ := hE.to_on ho1)
    | (go_at_call 33; (with_reducible refine (H2.out _ _ _ _ h1).mono ?_); rintro e w2 hE; obtain ⟨rfl, κ2, evv2, Y2, h2, hw2⟩ := hE.to_on ho2)
    | (go_at_call 90; (with_reducible refine (place_in h2 HN.out HI.out).mono ?_); rintro e w4 ⟨rfl, bb, cc, rfl, hy4, hc4, hf4, hk4⟩; have HY := Lib.hid hy4; clear hc4 hf4 hy4 hk4)
    | (go_at_call 110; (with_reducible refine (store_any h2 HE.out HY.out HI.out (n : Int) (i : Int) b HD.out HV.out HS.out).mono ?_); rintro e w5 ⟨rfl, κ5, evv5, Y5, h5, hw5⟩)
    | fail)
  go_ret
  exact DEnds.on h5 (((HW0.out.trans hw1).trans hw2).trans hw5) ho3
end
end Go.Proofs.Ytodejloonfkkmaa.Dir
