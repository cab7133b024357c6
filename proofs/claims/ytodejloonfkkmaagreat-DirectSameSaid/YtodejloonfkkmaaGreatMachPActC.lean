/-
  Package machine, walked: what nodes do once the kids that they are owed have ended (loop).
-/
import Derived.Test.YtodejloonfkkmaaGreatMachPActB
import Derived.Deep.RegionLaw
import Derived.Deep.AppendLies
import Derived.Laws.EntriesVeiled
set_option linter.unusedVariables false
namespace Go.Proofs.YtodejloonfkkmaaGreat.Mach
open Go.RowKit Mem _root_.Go.Proofs.YtodejloonfkkmaaGreat.Arena _root_.Go.Proofs.YtodejloonfkkmaaGreat.Kinds _root_.Go.Proofs.YtodejloonfkkmaaGreat.Path _root_.Go.Proofs.YtodejloonfkkmaaGreat.Cat _root_.Go.Proofs.YtodejloonfkkmaaGreat.Suite
attribute [local go_sem ↓] Go.wp_at_zero Go.wp_at_succ

section
variable {K : PK} {κ : Nat → Nat} {evv sv : Value} {Y : List ((Option Addr × Nat) × List Int)} {s : St} {S : List Fr} {W W' : World}
set_option maxRecDepth 100000 in
set_option maxHeartbeats 2000000 in
theorem act_loop (h : PM K κ evv sv Y s S W) (hL : Live K s S) (t N : Int) (pos next owed : Nat) (x y : Int) (fa : FuncId) (ca : Array Value) : Calls Tryz.prog 78 #[.pointer (some ⟨K.g, 0, none⟩), .agg #[.int .i64 t, .int .i64 N, .int .i64 (pos : Nat), .int .i64 (next : Nat), .int .i64 (owed : Nat), .int .i64 x, .int .i64 y, .func (.func fa) #[] ca]] W (Turn K κ W (if y = 0 then tellC 0 (s, S) else (s, ⟨(t, N), pos, next, 1, x, y, true⟩ :: S))) := by
  have hb1 := (Below.refl W.heap.size W).alloc (Nat.le_refl _) (.cells #[.int .i64 t, .int .i64 N, .int .i64 (pos : Nat), .int .i64 (next : Nat), .int .i64 (owed : Nat), .int .i64 x, .int .i64 y, .func (.func fa) #[] ca] 161)
  have bX := Blk.new W 161 #[.int .i64 t, .int .i64 N, .int .i64 (pos : Nat), .int .i64 (next : Nat), .int .i64 (owed : Nat), .int .i64 x, .int .i64 y, .func (.func fa) #[] ca]
  have x0 : (W.alloc (.cells #[.int .i64 t, .int .i64 N, .int .i64 (pos : Nat), .int .i64 (next : Nat), .int .i64 (owed : Nat), .int .i64 x, .int .i64 y, .func (.func fa) #[] ca] 161)).cell? ⟨W.heap.size, 0, none⟩ = some (.int .i64 t) := bX.cell 0
  have x1 : (W.alloc (.cells #[.int .i64 t, .int .i64 N, .int .i64 (pos : Nat), .int .i64 (next : Nat), .int .i64 (owed : Nat), .int .i64 x, .int .i64 y, .func (.func fa) #[] ca] 161)).cell? ⟨W.heap.size, 1, none⟩ = some (.int .i64 N) := bX.cell 1
  have x2 : (W.alloc (.cells #[.int .i64 t, .int .i64 N, .int .i64 (pos : Nat), .int .i64 (next : Nat), .int .i64 (owed : Nat), .int .i64 x, .int .i64 y, .func (.func fa) #[] ca] 161)).cell? ⟨W.heap.size, 2, none⟩ = some (.int .i64 pos) := bX.cell 2
  have x3 : (W.alloc (.cells #[.int .i64 t, .int .i64 N, .int .i64 (pos : Nat), .int .i64 (next : Nat), .int .i64 (owed : Nat), .int .i64 x, .int .i64 y, .func (.func fa) #[] ca] 161)).cell? ⟨W.heap.size, 3, none⟩ = some (.int .i64 next) := bX.cell 3
  have x4 : (W.alloc (.cells #[.int .i64 t, .int .i64 N, .int .i64 (pos : Nat), .int .i64 (next : Nat), .int .i64 (owed : Nat), .int .i64 x, .int .i64 y, .func (.func fa) #[] ca] 161)).cell? ⟨W.heap.size, 4, none⟩ = some (.int .i64 owed) := bX.cell 4
  have x5 : (W.alloc (.cells #[.int .i64 t, .int .i64 N, .int .i64 (pos : Nat), .int .i64 (next : Nat), .int .i64 (owed : Nat), .int .i64 x, .int .i64 y, .func (.func fa) #[] ca] 161)).cell? ⟨W.heap.size, 5, none⟩ = some (.int .i64 x) := bX.cell 5
  have x6 : (W.alloc (.cells #[.int .i64 t, .int .i64 N, .int .i64 (pos : Nat), .int .i64 (next : Nat), .int .i64 (owed : Nat), .int .i64 x, .int .i64 y, .func (.func fa) #[] ca] 161)).cell? ⟨W.heap.size, 6, none⟩ = some (.int .i64 y) := bX.cell 6
  have x7 : (W.alloc (.cells #[.int .i64 t, .int .i64 N, .int .i64 (pos : Nat), .int .i64 (next : Nat), .int .i64 (owed : Nat), .int .i64 x, .int .i64 y, .func (.func fa) #[] ca] 161)).cell? ⟨W.heap.size, 7, none⟩ = some (.func (.func fa) #[] ca) := bX.cell 7
  have h1 := h.below hb1
  have hw1 := (Went.refl κ W).below hb1
  have hl := hL.hl
  have ho := hL.on
  obtain ⟨A, c, rfl⟩ := h.slice
  have HT := Lib.hid (tell_any h1 ho 0 hl)
  have HW := Lib.hid hw1
  have HO := Lib.hid ho
  have HL := Lib.hid h.lab
  have hb2 := (Below.refl W.heap.size W).alloc (Nat.le_refl _) (.cells #[.int .i64 t, .int .i64 N, .int .i64 (pos : Nat), .int .i64 (next : Nat), .int .i64 1, .int .i64 x, .int .i64 y, .func (.func 115) #[] #[]] 161)
  have h2 := h.below hb2
  have hw2 := (Went.refl κ W).below hb2
  have b2 := Blk.new W 161 #[.int .i64 t, .int .i64 N, .int .i64 (pos : Nat), .int .i64 (next : Nat), .int .i64 1, .int .i64 x, .int .i64 y, .func (.func 115) #[] #[]]
  obtain ⟨ig, hig, hz0, hz1, hz2⟩ := info_parts info_frame
  have hsz := h.cn.size
  have hlS := hL.hl
  have c7 : (W.alloc (.cells #[.int .i64 t, .int .i64 N, .int .i64 (pos : Nat), .int .i64 (next : Nat), .int .i64 1, .int .i64 x, .int .i64 y, .func (.func 115) #[] #[]] 161)).cell? ⟨K.g, 10, none⟩ = some (.slice A S.length c) := h2.cell 10
  clear hb2
  clear h h1 hw1 hb1 bX hL ho hl
  go_enter Tryz.func78, Tryz.ntmps78
  by_cases hz : y = 0
  · rw [if_pos hz]
    subst hz
    go_wp2_with (first | (go_at_call 108; (with_reducible refine HT.out.mono ?_); rintro e w2 hT; obtain ⟨hTT, v, rfl⟩ := hT.ends HW.out; have HTT := Lib.hid hTT; clear hTT hT) | fail)
    go_ret
    exact HTT.out
  · rw [if_neg hz]
    have hyz : (y == 0) = false := by simp; exact hz
    clear hz
    clear x0 x1 x2 x3 x4 x5 x7
    go_wp2_with fail
    obtain ⟨k0, k1, k2, k3, k4, k5, k6, k7⟩ : (W.alloc (.cells #[.int .i64 t, .int .i64 N, .int .i64 (pos : Nat), .int .i64 (next : Nat), .int .i64 1, .int .i64 x, .int .i64 y, .func (.func 115) #[] #[]] 161)).drew.cell? ⟨W.heap.size, 0, none⟩ = some (.int .i64 t) ∧ (W.alloc (.cells #[.int .i64 t, .int .i64 N, .int .i64 (pos : Nat), .int .i64 (next : Nat), .int .i64 1, .int .i64 x, .int .i64 y, .func (.func 115) #[] #[]] 161)).drew.cell? ⟨W.heap.size, 1, none⟩ = some (.int .i64 N) ∧ (W.alloc (.cells #[.int .i64 t, .int .i64 N, .int .i64 (pos : Nat), .int .i64 (next : Nat), .int .i64 1, .int .i64 x, .int .i64 y, .func (.func 115) #[] #[]] 161)).drew.cell? ⟨W.heap.size, 2, none⟩ = some (.int .i64 (pos : Nat)) ∧ (W.alloc (.cells #[.int .i64 t, .int .i64 N, .int .i64 (pos : Nat), .int .i64 (next : Nat), .int .i64 1, .int .i64 x, .int .i64 y, .func (.func 115) #[] #[]] 161)).drew.cell? ⟨W.heap.size, 3, none⟩ = some (.int .i64 (next : Nat)) ∧ (W.alloc (.cells #[.int .i64 t, .int .i64 N, .int .i64 (pos : Nat), .int .i64 (next : Nat), .int .i64 1, .int .i64 x, .int .i64 y, .func (.func 115) #[] #[]] 161)).drew.cell? ⟨W.heap.size, 4, none⟩ = some (.int .i64 1) ∧ (W.alloc (.cells #[.int .i64 t, .int .i64 N, .int .i64 (pos : Nat), .int .i64 (next : Nat), .int .i64 1, .int .i64 x, .int .i64 y, .func (.func 115) #[] #[]] 161)).drew.cell? ⟨W.heap.size, 5, none⟩ = some (.int .i64 x) ∧ (W.alloc (.cells #[.int .i64 t, .int .i64 N, .int .i64 (pos : Nat), .int .i64 (next : Nat), .int .i64 1, .int .i64 x, .int .i64 y, .func (.func 115) #[] #[]] 161)).drew.cell? ⟨W.heap.size, 6, none⟩ = some (.int .i64 y) ∧ (W.alloc (.cells #[.int .i64 t, .int .i64 N, .int .i64 (pos : Nat), .int .i64 (next : Nat), .int .i64 1, .int .i64 x, .int .i64 y, .func (.func 115) #[] #[]] 161)).drew.cell? ⟨W.heap.size, 7, none⟩ = some (.func (.func 115) #[] #[]) := ⟨b2.cell 0, b2.cell 1, b2.cell 2, b2.cell 3, b2.cell 4, b2.cell 5, b2.cell 6, b2.cell 7⟩
    have hC0 : (fun w' => w'.cell? ⟨K.g, 10, none⟩ = some (.slice A S.length c) ∧ w'.cell? ⟨W.heap.size, 0, none⟩ = some (.int .i64 t) ∧ w'.cell? ⟨W.heap.size, 1, none⟩ = some (.int .i64 N) ∧ w'.cell? ⟨W.heap.size, 2, none⟩ = some (.int .i64 (pos : Nat)) ∧ w'.cell? ⟨W.heap.size, 3, none⟩ = some (.int .i64 (next : Nat)) ∧ w'.cell? ⟨W.heap.size, 4, none⟩ = some (.int .i64 1) ∧ w'.cell? ⟨W.heap.size, 5, none⟩ = some (.int .i64 x) ∧ w'.cell? ⟨W.heap.size, 6, none⟩ = some (.int .i64 y) ∧ w'.cell? ⟨W.heap.size, 7, none⟩ = some (.func (.func 115) #[] #[])) (W.alloc (.cells #[.int .i64 t, .int .i64 N, .int .i64 (pos : Nat), .int .i64 (next : Nat), .int .i64 1, .int .i64 x, .int .i64 y, .func (.func 115) #[] #[]] 161)).drew := ⟨h2.cell 10, k0, k1, k2, k3, k4, k5, k6, k7⟩
    have hO2 := h2.sr
    refine OrdU.wp_region_U 10 (fun w' => w'.cell? ⟨K.g, 10, none⟩ = some (.slice A S.length c) ∧ w'.cell? ⟨W.heap.size, 0, none⟩ = some (.int .i64 t) ∧ w'.cell? ⟨W.heap.size, 1, none⟩ = some (.int .i64 N) ∧ w'.cell? ⟨W.heap.size, 2, none⟩ = some (.int .i64 (pos : Nat)) ∧ w'.cell? ⟨W.heap.size, 3, none⟩ = some (.int .i64 (next : Nat)) ∧ w'.cell? ⟨W.heap.size, 4, none⟩ = some (.int .i64 1) ∧ w'.cell? ⟨W.heap.size, 5, none⟩ = some (.int .i64 x) ∧ w'.cell? ⟨W.heap.size, 6, none⟩ = some (.int .i64 y) ∧ w'.cell? ⟨W.heap.size, 7, none⟩ = some (.func (.func 115) #[] #[])) (by kernel_rfl) hC0 (fun hHeld => ?_)
    refine OrdU.wpAnyU_take (i := 0) (oi := ⟨some 12, _, _, _, _, none⟩) (v := ?_) rfl (by kernel_rfl) (by kernel_rfl) (by kernel_rfl) (by decide) (by kernel_rfl) (fun _ _ _ h => h) (Or.inl ⟨by rfl, ?_⟩) (by assumption) ?_
    rotate_left
    · intro w hSw; (try dsimp only at hSw); go_simp; try with_reducible rfl
    try simp only [Act.put, List.setIfInBounds_toArray, List.set_cons_zero, List.set_cons_succ]
    refine OrdU.wpAnyU_take (i := 1) (oi := ⟨some 13, _, _, _, _, none⟩) (v := ?_) rfl (by kernel_rfl) (by kernel_rfl) (by kernel_rfl) (by decide) (by kernel_rfl) (fun _ _ _ h => h) (Or.inl ⟨by rfl, ?_⟩) (by assumption) ?_
    rotate_left
    · intro w hSw; (try dsimp only at hSw); go_simp; try with_reducible rfl
    try simp only [Act.put, List.setIfInBounds_toArray, List.set_cons_zero, List.set_cons_succ]
    refine OrdU.wpAnyU_take (i := 2) (oi := ⟨some 14, _, _, _, _, none⟩) (v := ?_) rfl (by kernel_rfl) (by kernel_rfl) (by kernel_rfl) (by decide) (by kernel_rfl) (fun _ _ _ h => h) (Or.inl ⟨by rfl, ?_⟩) (by assumption) ?_
    rotate_left
    · intro w hSw; (try dsimp only at hSw); go_simp; try with_reducible rfl
    try simp only [Act.put, List.setIfInBounds_toArray, List.set_cons_zero, List.set_cons_succ]
    refine OrdU.wpAnyU_take (i := 3) (oi := ⟨some 15, _, _, _, _, none⟩) (v := ?_) rfl (by kernel_rfl) (by kernel_rfl) (by kernel_rfl) (by decide) (by kernel_rfl) (fun _ _ _ h => h) (Or.inl ⟨by rfl, ?_⟩) (by assumption) ?_
    rotate_left
    · intro w hSw; (try dsimp only at hSw); go_simp; try with_reducible rfl
    try simp only [Act.put, List.setIfInBounds_toArray, List.set_cons_zero, List.set_cons_succ]
    refine OrdU.wpAnyU_take (i := 4) (oi := ⟨some 16, _, _, _, _, none⟩) (v := ?_) rfl (by kernel_rfl) (by kernel_rfl) (by kernel_rfl) (by decide) (by kernel_rfl) (fun _ _ _ h => h) (Or.inl ⟨by rfl, ?_⟩) (by assumption) ?_
    rotate_left
    · intro w hSw; (try dsimp only at hSw); go_simp; try with_reducible rfl
    try simp only [Act.put, List.setIfInBounds_toArray, List.set_cons_zero, List.set_cons_succ]
    refine OrdU.wpAnyU_take (i := 5) (oi := ⟨some 17, _, _, _, _, none⟩) (v := ?_) rfl (by kernel_rfl) (by kernel_rfl) (by kernel_rfl) (by decide) (by kernel_rfl) (fun _ _ _ h => h) (Or.inl ⟨by rfl, ?_⟩) (by assumption) ?_
    rotate_left
    · intro w hSw; (try dsimp only at hSw); go_simp; try with_reducible rfl
    try simp only [Act.put, List.setIfInBounds_toArray, List.set_cons_zero, List.set_cons_succ]
    have hb3 := (Below.refl (W.alloc (.cells #[.int .i64 t, .int .i64 N, .int .i64 (pos : Nat), .int .i64 (next : Nat), .int .i64 1, .int .i64 x, .int .i64 y, .func (.func 115) #[] #[]] 161)).drew.heap.size (W.alloc (.cells #[.int .i64 t, .int .i64 N, .int .i64 (pos : Nat), .int .i64 (next : Nat), .int .i64 1, .int .i64 x, .int .i64 y, .func (.func 115) #[] #[]] 161)).drew).alloc (Nat.le_refl _) (.cells #[.int .i64 t, .int .i64 N, .int .i64 (pos : Nat), .int .i64 (next : Nat), .int .i64 1, .int .i64 x, .int .i64 y, .func (.func 115) #[] #[]] 161)
    have h3 := h2.drew.below hb3
    have hw3 := hw2.drew.below hb3
    have b3 := b2.drew.below hb3 b2.lt
    have hO3 := h3.sr
    obtain ⟨k0, k1, k2, k3, k4, k5, k6, k7⟩ : ((W.alloc (.cells #[.int .i64 t, .int .i64 N, .int .i64 (pos : Nat), .int .i64 (next : Nat), .int .i64 1, .int .i64 x, .int .i64 y, .func (.func 115) #[] #[]] 161)).alloc (.cells #[.int .i64 t, .int .i64 N, .int .i64 (pos : Nat), .int .i64 (next : Nat), .int .i64 1, .int .i64 x, .int .i64 y, .func (.func 115) #[] #[]] 161)).drew.cell? ⟨W.heap.size, 0, none⟩ = some (.int .i64 t) ∧ ((W.alloc (.cells #[.int .i64 t, .int .i64 N, .int .i64 (pos : Nat), .int .i64 (next : Nat), .int .i64 1, .int .i64 x, .int .i64 y, .func (.func 115) #[] #[]] 161)).alloc (.cells #[.int .i64 t, .int .i64 N, .int .i64 (pos : Nat), .int .i64 (next : Nat), .int .i64 1, .int .i64 x, .int .i64 y, .func (.func 115) #[] #[]] 161)).drew.cell? ⟨W.heap.size, 1, none⟩ = some (.int .i64 N) ∧ ((W.alloc (.cells #[.int .i64 t, .int .i64 N, .int .i64 (pos : Nat), .int .i64 (next : Nat), .int .i64 1, .int .i64 x, .int .i64 y, .func (.func 115) #[] #[]] 161)).alloc (.cells #[.int .i64 t, .int .i64 N, .int .i64 (pos : Nat), .int .i64 (next : Nat), .int .i64 1, .int .i64 x, .int .i64 y, .func (.func 115) #[] #[]] 161)).drew.cell? ⟨W.heap.size, 2, none⟩ = some (.int .i64 (pos : Nat)) ∧ ((W.alloc (.cells #[.int .i64 t, .int .i64 N, .int .i64 (pos : Nat), .int .i64 (next : Nat), .int .i64 1, .int .i64 x, .int .i64 y, .func (.func 115) #[] #[]] 161)).alloc (.cells #[.int .i64 t, .int .i64 N, .int .i64 (pos : Nat), .int .i64 (next : Nat), .int .i64 1, .int .i64 x, .int .i64 y, .func (.func 115) #[] #[]] 161)).drew.cell? ⟨W.heap.size, 3, none⟩ = some (.int .i64 (next : Nat)) ∧ ((W.alloc (.cells #[.int .i64 t, .int .i64 N, .int .i64 (pos : Nat), .int .i64 (next : Nat), .int .i64 1, .int .i64 x, .int .i64 y, .func (.func 115) #[] #[]] 161)).alloc (.cells #[.int .i64 t, .int .i64 N, .int .i64 (pos : Nat), .int .i64 (next : Nat), .int .i64 1, .int .i64 x, .int .i64 y, .func (.func 115) #[] #[]] 161)).drew.cell? ⟨W.heap.size, 4, none⟩ = some (.int .i64 1) ∧ ((W.alloc (.cells #[.int .i64 t, .int .i64 N, .int .i64 (pos : Nat), .int .i64 (next : Nat), .int .i64 1, .int .i64 x, .int .i64 y, .func (.func 115) #[] #[]] 161)).alloc (.cells #[.int .i64 t, .int .i64 N, .int .i64 (pos : Nat), .int .i64 (next : Nat), .int .i64 1, .int .i64 x, .int .i64 y, .func (.func 115) #[] #[]] 161)).drew.cell? ⟨W.heap.size, 5, none⟩ = some (.int .i64 x) ∧ ((W.alloc (.cells #[.int .i64 t, .int .i64 N, .int .i64 (pos : Nat), .int .i64 (next : Nat), .int .i64 1, .int .i64 x, .int .i64 y, .func (.func 115) #[] #[]] 161)).alloc (.cells #[.int .i64 t, .int .i64 N, .int .i64 (pos : Nat), .int .i64 (next : Nat), .int .i64 1, .int .i64 x, .int .i64 y, .func (.func 115) #[] #[]] 161)).drew.cell? ⟨W.heap.size, 6, none⟩ = some (.int .i64 y) ∧ ((W.alloc (.cells #[.int .i64 t, .int .i64 N, .int .i64 (pos : Nat), .int .i64 (next : Nat), .int .i64 1, .int .i64 x, .int .i64 y, .func (.func 115) #[] #[]] 161)).alloc (.cells #[.int .i64 t, .int .i64 N, .int .i64 (pos : Nat), .int .i64 (next : Nat), .int .i64 1, .int .i64 x, .int .i64 y, .func (.func 115) #[] #[]] 161)).drew.cell? ⟨W.heap.size, 7, none⟩ = some (.func (.func 115) #[] #[]) := ⟨b3.cell 0, b3.cell 1, b3.cell 2, b3.cell 3, b3.cell 4, b3.cell 5, b3.cell 6, b3.cell 7⟩
    have hC3 : (fun w' => w'.cell? ⟨K.g, 10, none⟩ = some (.slice A S.length c) ∧ w'.cell? ⟨W.heap.size, 0, none⟩ = some (.int .i64 t) ∧ w'.cell? ⟨W.heap.size, 1, none⟩ = some (.int .i64 N) ∧ w'.cell? ⟨W.heap.size, 2, none⟩ = some (.int .i64 (pos : Nat)) ∧ w'.cell? ⟨W.heap.size, 3, none⟩ = some (.int .i64 (next : Nat)) ∧ w'.cell? ⟨W.heap.size, 4, none⟩ = some (.int .i64 1) ∧ w'.cell? ⟨W.heap.size, 5, none⟩ = some (.int .i64 x) ∧ w'.cell? ⟨W.heap.size, 6, none⟩ = some (.int .i64 y) ∧ w'.cell? ⟨W.heap.size, 7, none⟩ = some (.func (.func 115) #[] #[])) ((W.alloc (.cells #[.int .i64 t, .int .i64 N, .int .i64 (pos : Nat), .int .i64 (next : Nat), .int .i64 1, .int .i64 x, .int .i64 y, .func (.func 115) #[] #[]] 161)).alloc (.cells #[.int .i64 t, .int .i64 N, .int .i64 (pos : Nat), .int .i64 (next : Nat), .int .i64 1, .int .i64 x, .int .i64 y, .func (.func 115) #[] #[]] 161)).drew := ⟨h3.cell 10, k0, k1, k2, k3, k4, k5, k6, k7⟩
    refine OrdU.wpAnyU_ready (rs := [6]) (by kernel_rfl) (by simp) ?_
    refine OrdU.AllReadyU.cons (o := ⟨some 18, _, _, _, _, none⟩) rfl (fun K' hK => ?_) OrdU.AllReadyU.nil
    go_simp
    refine hK.out _ _ (fun _ => hC3) (fun hHeld => ?_)
    replace hHeld := hHeld (by kernel_rfl)
    clear hK K'
    try simp only [Act.put, List.setIfInBounds_toArray, List.set_cons_zero, List.set_cons_succ]
    refine OrdU.wpAnyU_ready (rs := [7]) (by kernel_rfl) (by simp) ?_
    refine OrdU.AllReadyU.cons (o := ⟨some 19, _, _, _, _, none⟩) rfl (fun K' hK => ?_) OrdU.AllReadyU.nil
    refine step_append_lies _ (by rfl) _ _ _ (by rfl) K.base 161 ig _ 8 64 Tryz.underlying62 hig hz0 hz1 hz2 rfl (by omega) _ S.length _ (by rfl) hO3 ⟨W.heap.size + 1, 0, none⟩ 1 1 [.int .i64 t, .int .i64 N, .int .i64 (pos : Nat), .int .i64 (next : Nat), .int .i64 1, .int .i64 x, .int .i64 y, .func (.func 115) #[] #[]] (by rfl) (by rfl) (World.news_of_block (cs := #[.int .i64 t, .int .i64 N, .int .i64 (pos : Nat), .int .i64 (next : Nat), .int .i64 1, .int .i64 x, .int .i64 y, .func (.func 115) #[] #[]]) (t := 161) (fr := (0, 0)) (by have := heap_alloc_new (W.alloc (.cells #[.int .i64 t, .int .i64 N, .int .i64 (pos : Nat), .int .i64 (next : Nat), .int .i64 1, .int .i64 x, .int .i64 y, .func (.func 115) #[] #[]] 161)) (.cells #[.int .i64 t, .int .i64 N, .int .i64 (pos : Nat), .int .i64 (next : Nat), .int .i64 1, .int .i64 x, .int .i64 y, .func (.func 115) #[] #[]] 161); rwa [World.size_alloc] at this)) (by simp [Value.oneCell']) (by omega) (by simp only [maxLen]; omega) (by omega) (by simp; omega) (W.heap.size + 2) (by simp) ?_
    intro gg cap4 w5 hown hgr hat hlt5
    have hnb : ∀ i, κ i ≠ 5 → some i ≠ (Value.slice A S.length c).ownBlock := fun i hi z => hi (HL.out.s i z.symm)
    have bG := h3.blk.grown hgr (hnb _ (by rw [HL.out.g]; decide))
    have y4 : w5.cell? ⟨K.g, 10, none⟩ = some (.slice A S.length c) := bG.cell 10
    have yf := bG.frozen 10
    have b5 := b3.grown hgr (fun z => by have q1 := HL.out.s _ z.symm; have q2 := HL.out.lt W.heap.size (by omega); omega)
    obtain ⟨k0, k1, k2, k3, k4, k5, k6, k7⟩ : w5.cell? ⟨W.heap.size, 0, none⟩ = some (.int .i64 t) ∧ w5.cell? ⟨W.heap.size, 1, none⟩ = some (.int .i64 N) ∧ w5.cell? ⟨W.heap.size, 2, none⟩ = some (.int .i64 (pos : Nat)) ∧ w5.cell? ⟨W.heap.size, 3, none⟩ = some (.int .i64 (next : Nat)) ∧ w5.cell? ⟨W.heap.size, 4, none⟩ = some (.int .i64 1) ∧ w5.cell? ⟨W.heap.size, 5, none⟩ = some (.int .i64 x) ∧ w5.cell? ⟨W.heap.size, 6, none⟩ = some (.int .i64 y) ∧ w5.cell? ⟨W.heap.size, 7, none⟩ = some (.func (.func 115) #[] #[]) := ⟨b5.cell 0, b5.cell 1, b5.cell 2, b5.cell 3, b5.cell 4, b5.cell 5, b5.cell 6, b5.cell 7⟩
    have hC5 : (fun w' => w'.cell? ⟨K.g, 10, none⟩ = some (.slice A S.length c) ∧ w'.cell? ⟨W.heap.size, 0, none⟩ = some (.int .i64 t) ∧ w'.cell? ⟨W.heap.size, 1, none⟩ = some (.int .i64 N) ∧ w'.cell? ⟨W.heap.size, 2, none⟩ = some (.int .i64 (pos : Nat)) ∧ w'.cell? ⟨W.heap.size, 3, none⟩ = some (.int .i64 (next : Nat)) ∧ w'.cell? ⟨W.heap.size, 4, none⟩ = some (.int .i64 1) ∧ w'.cell? ⟨W.heap.size, 5, none⟩ = some (.int .i64 x) ∧ w'.cell? ⟨W.heap.size, 6, none⟩ = some (.int .i64 y) ∧ w'.cell? ⟨W.heap.size, 7, none⟩ = some (.func (.func 115) #[] #[])) w5 := ⟨y4, k0, k1, k2, k3, k4, k5, k6, k7⟩
    refine hK.out _ _ (fun _ => hC5) (fun hHeld => ?_)
    replace hHeld := hHeld (by kernel_rfl)
    clear hK K'
    try simp only [Act.put, List.setIfInBounds_toArray, List.set_cons_zero, List.set_cons_succ]
    refine OrdU.wpAnyU_ready (rs := [8]) (by kernel_rfl) (by simp) ?_
    refine OrdU.AllReadyU.cons (o := ⟨some 20, _, _, _, _, none⟩) rfl (fun K' hK => ?_) OrdU.AllReadyU.nil
    go_simp
    refine hK.out _ _ (fun _ => hC5) (fun hHeld => ?_)
    replace hHeld := hHeld (by kernel_rfl)
    clear hK K'
    try simp only [Act.put, List.setIfInBounds_toArray, List.set_cons_zero, List.set_cons_succ]
    refine OrdU.wpAnyU_ready (rs := [9]) (by kernel_rfl) (by simp) ?_
    refine OrdU.AllReadyU.cons (o := ⟨some 21, _, _, _, _, none⟩) rfl (fun K' hK => ?_) OrdU.AllReadyU.nil
    go_simp
    refine hK.out _ _ (fun _ => hC5) (fun hHeld => ?_)
    replace hHeld := hHeld (by kernel_rfl)
    clear hK K'
    try simp only [Act.put, List.setIfInBounds_toArray, List.set_cons_zero, List.set_cons_succ]
    refine OrdU.wpAnyU_ready (rs := [10]) (by kernel_rfl) (by simp) ?_
    refine OrdU.AllReadyU.cons (o := ⟨none, _, _, _, _, none⟩) rfl (fun K' hK => ?_) OrdU.AllReadyU.nil
    go_simp
    refine hK.out _ _ (OrdU.no (by kernel_rfl)) (fun _ => ?_)
    clear hK K'
    try simp only [Act.put, List.setIfInBounds_toArray, List.set_cons_zero, List.set_cons_succ]
    refine OrdU.wpAnyU_done (by kernel_rfl) ?_ _
    have hfc : fcells K.actv S ++ [.int .i64 t, .int .i64 N, .int .i64 (pos : Nat), .int .i64 (next : Nat), .int .i64 1, .int .i64 x, .int .i64 y, .func (.func 115) #[] #[]] = fcells K.actv S ++ fcell K.actv ⟨(t, N), pos, next, 1, x, y, true⟩ := by
      unfold fcell doesV againV
      simp
    obtain ⟨e1, e2⟩ := h3.push (sv' := .slice (some ⟨gg, 0, none⟩) (S.length + 1) cap4) (f := ⟨(t, N), pos, next, 1, x, y, true⟩) hgr (by rw [← hfc]; exact hown) (hat.imp (fun z => z.symm) (fun z => (congrArg some z).trans (by simp)))
    have hk := (hw3.grown hgr (fun i z => by rw [HL.out.s i z]; decide)).setCell (a := ⟨K.g, 10, none⟩) (.inl (by rw [HL.out.g]; decide)) (.slice (some ⟨gg, 0, none⟩) (S.length + 1) cap4)
    have hwt : Went κ _ W (w5.setCell ⟨K.g, 10, none⟩ (.slice (some ⟨gg, 0, none⟩) (S.length + 1) cap4)) := ⟨hk.kept, fun i z => by
      rcases e2 i z with q1 | q1
      · exact .inl q1
      · exact .inr (by simp at q1; omega)⟩
    have HT := Lib.hid (Turn.on (c := (s, ⟨(t, N), pos, next, 1, x, y, true⟩ :: S)) e1 hwt HO.out)
    clear e1 e2 hk hwt
    go_wp2_with fail
    go_ret
    exact HT.out
end
end Go.Proofs.YtodejloonfkkmaaGreat.Mach
