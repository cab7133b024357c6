/-
  Package machine, walked: a node is entered.
-/
import Derived.Test.YtodejloonfkkmaaGreatMachPTell
import Derived.Test.YtodejloonfkkmaaGreatOrdersU
import Derived.Deep.RegionLaw
import Derived.Deep.AppendLies
set_option linter.unusedVariables false
namespace Go.Proofs.YtodejloonfkkmaaGreat.Mach
open Go.RowKit Mem _root_.Go.Proofs.YtodejloonfkkmaaGreat.Arena _root_.Go.Proofs.YtodejloonfkkmaaGreat.Kinds _root_.Go.Proofs.YtodejloonfkkmaaGreat.Path _root_.Go.Proofs.YtodejloonfkkmaaGreat.Cat _root_.Go.Proofs.YtodejloonfkkmaaGreat.Suite
attribute [local go_sem ↓] Go.wp_at_zero Go.wp_at_succ

section
variable {K : PK} {κ : Nat → Nat} {evv sv : Value} {Y : List ((Option Addr × Nat) × List Int)} {s : St} {S : List Fr} {W W' : World}
/-- A stack is a slice. -/
theorem PM.slice (h : PM K κ evv sv Y s S W) : ∃ A c, sv = .slice A S.length c := by
  rcases h.sr.2 with ⟨q, e⟩ | ⟨g', cap', cur, q, -⟩
  · exact ⟨_, _, by rw [e]; exact q⟩
  · exact ⟨_, _, q⟩
set_option maxRecDepth 100000 in
theorem p_enter_out (h : PM K κ evv sv Y s S W) (ho : s.over = false) (h0 : s.fuel = 0) (hF : s.steps + s.fuel = K.F) (k : Int) : Calls Tryz.prog 34 #[.pointer (some ⟨K.g, 0, none⟩), .int .i64 k] W (Turn K κ W (s.stop 4 0, S)) := by
  have c2 : W.cell? ⟨K.g, 2, none⟩ = some (.int .i64 s.steps) := h.cell 2
  have c6 : W.cell? ⟨K.g, 6, none⟩ = some (.int .i64 K.F) := h.cell 6
  rw [show K.F = s.steps by omega] at c6
  have HT := Lib.hid (Turn.stopped h.drew (Went.refl κ W).drew ho 4)
  clear h ho h0 hF
  generalize s.steps = n at c2 c6
  go_enter Tryz.func34, Tryz.ntmps34
  go_wp2_with fail
  go_region
  go_wp2_with fail
  go_ret
  exact HT.out
set_option maxRecDepth 100000 in
set_option maxHeartbeats 4000000 in
theorem p_enter_on (h : PM K κ evv sv Y s S W) (ho : s.over = false) (h0 : s.fuel ≠ 0) (hF : s.steps + s.fuel = K.F) (hF2 : K.F ≤ 10000) (hl : S.length ≤ 10000) {k : Nat} (hk : IsNode K.p.xs k) : Calls Tryz.prog 34 #[.pointer (some ⟨K.g, 0, none⟩), .int .i64 k] W (Turn K κ W (s.tick, frame0 K.p.xs k :: S)) := by
  obtain ⟨A, c, rfl⟩ := h.slice
  obtain ⟨⟨t, N⟩, hx, har, ht1, ht2, hkl, hget⟩ := hk.get
  simp only at ht1 ht2
  have hfr0 : frame0 K.p.xs k = ⟨(t, N), k, k + 1, owedN (t, N), 0, 0, false⟩ := by unfold frame0; rw [hget]
  have c2 : W.cell? ⟨K.g, 2, none⟩ = some (.int .i64 s.steps) := h.cell 2
  have c6 : W.cell? ⟨K.g, 6, none⟩ = some (.int .i64 K.F) := h.cell 6
  have f2 := h.drew.blk.frozen 2
  have e3 : ((s.steps : Int) == (K.F : Int)) = false := by simp; omega
  have v1 : IntKind.i64.wrap ((s.steps : Int) + 1) = (s.steps : Int) + 1 := IntWalk.i64_in _ (by omega)
  have hlx := h.cn.lx
  have v2 : IntKind.i64.wrap ((k : Int) + 1) = (k : Int) + 1 := IntWalk.i64_in _ (by omega)
  have i1 : (k : Int) < (K.p.xs.length : Int) := by omega
  have i2 : (0 : Int) ≤ (k : Int) := by omega
  have hgb := h.glt
  have hbs := h.cn.size
  have h2 := h.tick.drew
  have hw2 := ((Went.refl κ W).setCell (a := ⟨K.g, 2, none⟩) (.inl (by rw [h.lab.g]; decide)) (.int .i64 ((s.steps : Int) + 1))).drew
  have hsz2 : (W.setCell ⟨K.g, 2, none⟩ (.int .i64 ((s.steps : Int) + 1))).drew.heap.size = W.heap.size := by simp
  obtain ⟨W2, hW2⟩ : ∃ W2, (W.setCell ⟨K.g, 2, none⟩ (.int .i64 ((s.steps : Int) + 1))).drew = W2 := ⟨_, rfl⟩
  rw [hW2] at h2 hw2 hsz2
  obtain ⟨ad, hB, hbk, d0, d1⟩ := h2.cn.body k (t, N) hx
  simp only at d0 d1
  have c4 : W2.cell? ⟨K.g, 4, none⟩ = some (.slice K.p.B K.p.xs.length K.p.e) := h2.cell 4
  rw [hB] at c4
  -- the node, in a variable of its own
  have b3 := Blk.new W2 47 #[.int .i64 t, .int .i64 N]
  have hb3 := (Below.refl W2.heap.size W2).alloc (Nat.le_refl _) (.cells #[.int .i64 t, .int .i64 N] 47)
  have h3 := h2.below hb3
  have hw3 := hw2.below hb3
  have HO := Lib.hid (fun W => owed_any t N har W)
  have ha := h3.cn.acts t ht1 ht2
  obtain ⟨fa, ca, hact⟩ := ha.one
  obtain ⟨ig, hig, hz0, hz1, hz2⟩ := info_parts info_frame
  have HC := Lib.hid (fun W4 (hb4 : Below (W2.alloc (.cells #[.int .i64 t, .int .i64 N] 47)).heap.size (W2.alloc (.cells #[.int .i64 t, .int .i64 N] 47)) W4) => And.intro (h3.below hb4) (And.intro (hw3.below hb4) (b3.below hb4 b3.lt)))
  have c7 : (W2.alloc (.cells #[.int .i64 t, .int .i64 N] 47)).cell? ⟨K.g, 10, none⟩ = some (.slice A S.length c) := h3.cell 10
  have c8 : (W2.alloc (.cells #[.int .i64 t, .int .i64 N] 47)).cell? ⟨K.g, 9, none⟩ = some (.map (some K.mb)) := h3.cell 9
  obtain ⟨x0, x1⟩ := b3.two
  have HL := Lib.hid h.lab
  have HLT := Lib.hid (Nat.le_of_eq hsz2.symm)
  have L1 := lookA h3.cn.map.drew t ht1 ht2
  rw [hact] at L1
  have HS2 := Lib.hid hsz2
  have HFR := Lib.hid hfr0
  have HACT := Lib.hid hact
  have HB := Lib.hid hB
  have HO0 := Lib.hid ho
  generalize hq : ((owedN (t, N) : Nat) : Int) = q at HO
  have HQ := Lib.hid hq
  clear h h2 hw2 h3 hw3 ha hact hsz2 hb3 b3 hfr0 hget hB hq har hx ho hk
  go_enter Tryz.func34, Tryz.ntmps34
  go_wp2_with fail
  go_region
  go_wp2_with fail
  have hC : (fun w' => w'.cell? ⟨K.g, 10, none⟩ = some (.slice A S.length c) ∧ w'.cell? ⟨K.g, 9, none⟩ = some (.map (some K.mb)) ∧ w'.cell? ⟨W2.heap.size, 0, none⟩ = some (.int .i64 t) ∧ w'.cell? ⟨W2.heap.size, 1, none⟩ = some (.int .i64 N) ∧ (Instr.lookup 61 (.map (some K.mb)) (.int .i64 t) false).run Tryz.prog w' = .ok (.func (.func fa) #[] ca) w') (W2.alloc (.cells #[.int .i64 t, .int .i64 N] 47)).drew := ⟨c7, c8, x0, x1, L1⟩
  refine OrdU.wp_region_U 23 (fun w' => w'.cell? ⟨K.g, 10, none⟩ = some (.slice A S.length c) ∧ w'.cell? ⟨K.g, 9, none⟩ = some (.map (some K.mb)) ∧ w'.cell? ⟨W2.heap.size, 0, none⟩ = some (.int .i64 t) ∧ w'.cell? ⟨W2.heap.size, 1, none⟩ = some (.int .i64 N) ∧ (Instr.lookup 61 (.map (some K.mb)) (.int .i64 t) false).run Tryz.prog w' = .ok (.func (.func fa) #[] ca) w') (by kernel_rfl) hC (fun hHeld => ?_)
  refine OrdU.wpAnyU_take (i := 0) (oi := ⟨some 33, _, _, _, _, none⟩) (v := ?_) rfl (by kernel_rfl) (by kernel_rfl) (by kernel_rfl) (by decide) (by kernel_rfl) (fun _ _ _ h => h) (Or.inl ⟨by rfl, ?_⟩) (by assumption) ?_
  rotate_left
  · intro w hSw; (try dsimp only at hSw); go_simp; try with_reducible rfl
  try simp only [Act.put, List.setIfInBounds_toArray, List.set_cons_zero, List.set_cons_succ]
  refine OrdU.wpAnyU_take (i := 1) (oi := ⟨some 34, _, _, _, _, none⟩) (v := ?_) rfl (by kernel_rfl) (by kernel_rfl) (by kernel_rfl) (by decide) (by kernel_rfl) (fun _ _ _ h => h) (Or.inl ⟨by rfl, ?_⟩) (by assumption) ?_
  rotate_left
  · intro w hSw; (try dsimp only at hSw); go_simp; try with_reducible rfl
  try simp only [Act.put, List.setIfInBounds_toArray, List.set_cons_zero, List.set_cons_succ]
  refine OrdU.wpAnyU_take (i := 2) (oi := ⟨some 35, _, _, _, _, none⟩) (v := ?_) rfl (by kernel_rfl) (by kernel_rfl) (by kernel_rfl) (by decide) (by kernel_rfl) (fun _ _ _ h => h) (Or.inl ⟨by rfl, ?_⟩) (by assumption) ?_
  rotate_left
  · intro w hSw; (try dsimp only at hSw); go_simp; try with_reducible rfl
  try simp only [Act.put, List.setIfInBounds_toArray, List.set_cons_zero, List.set_cons_succ]
  refine OrdU.wpAnyU_take (i := 3) (oi := ⟨some 36, _, _, _, _, none⟩) (v := ?_) rfl (by kernel_rfl) (by kernel_rfl) (by kernel_rfl) (by decide) (by kernel_rfl) (fun _ _ _ h => h) (Or.inl ⟨by rfl, ?_⟩) (by assumption) ?_
  rotate_left
  · intro w hSw; (try dsimp only at hSw); go_simp; try with_reducible rfl
  try simp only [Act.put, List.setIfInBounds_toArray, List.set_cons_zero, List.set_cons_succ]
  refine OrdU.wpAnyU_take (i := 4) (oi := ⟨some 37, _, _, _, _, none⟩) (v := ?_) rfl (by kernel_rfl) (by kernel_rfl) (by kernel_rfl) (by decide) (by kernel_rfl) (fun _ _ _ h => h) (Or.inl ⟨by rfl, ?_⟩) (by assumption) ?_
  rotate_left
  · intro w hSw; (try dsimp only at hSw); go_simp; try with_reducible rfl
  try simp only [Act.put, List.setIfInBounds_toArray, List.set_cons_zero, List.set_cons_succ]
  refine OrdU.wpAnyU_take (i := 5) (oi := ⟨some 38, _, _, _, _, none⟩) (v := ?_) rfl (by kernel_rfl) (by kernel_rfl) (by kernel_rfl) (by decide) (by kernel_rfl) (fun _ _ _ h => h) (Or.inl ⟨by rfl, ?_⟩) (by assumption) ?_
  rotate_left
  · intro w hSw; (try dsimp only at hSw); go_simp; try with_reducible rfl
  try simp only [Act.put, List.setIfInBounds_toArray, List.set_cons_zero, List.set_cons_succ]
  refine OrdU.wpAnyU_take (i := 6) (oi := ⟨some 39, _, _, _, _, none⟩) (v := ?_) rfl (by kernel_rfl) (by kernel_rfl) (by kernel_rfl) (by decide) (by kernel_rfl) (fun _ _ _ h => h) (Or.inl ⟨by rfl, ?_⟩) (by assumption) ?_
  rotate_left
  · intro w hSw; (try dsimp only at hSw); go_simp; try with_reducible rfl
  try simp only [Act.put, List.setIfInBounds_toArray, List.set_cons_zero, List.set_cons_succ]
  refine OrdU.wpAnyU_take (i := 7) (oi := ⟨some 40, _, _, _, _, none⟩) (v := ?_) rfl (by kernel_rfl) (by kernel_rfl) (by kernel_rfl) (by decide) (by kernel_rfl) (fun _ _ _ h => h) (Or.inl ⟨by rfl, ?_⟩) (by assumption) ?_
  rotate_left
  · intro w hSw; (try dsimp only at hSw); go_simp; try with_reducible rfl
  try simp only [Act.put, List.setIfInBounds_toArray, List.set_cons_zero, List.set_cons_succ]
  refine OrdU.wpAnyU_take (i := 8) (oi := ⟨some 41, _, _, _, _, none⟩) (v := ?_) rfl (by kernel_rfl) (by kernel_rfl) (by kernel_rfl) (by decide) (by kernel_rfl) (fun _ _ _ h => h) (Or.inl ⟨by rfl, ?_⟩) (by assumption) ?_
  rotate_left
  · intro w hSw; (try dsimp only at hSw); go_simp; try with_reducible rfl
  try simp only [Act.put, List.setIfInBounds_toArray, List.set_cons_zero, List.set_cons_succ]
  refine OrdU.wpAnyU_take (i := 9) (oi := ⟨some 42, _, _, _, _, none⟩) (v := ?_) rfl (by kernel_rfl) (by kernel_rfl) (by kernel_rfl) (by decide) (by kernel_rfl) (fun _ _ _ h => h) (Or.inl ⟨by rfl, ?_⟩) (by assumption) ?_
  rotate_left
  · intro w hSw; (try dsimp only at hSw); go_simp; try with_reducible rfl
  try simp only [Act.put, List.setIfInBounds_toArray, List.set_cons_zero, List.set_cons_succ]
  refine OrdU.wpAnyU_take (i := 11) (oi := ⟨some 44, _, _, _, _, none⟩) (v := ?_) rfl (by kernel_rfl) (by kernel_rfl) (by kernel_rfl) (by decide) (by kernel_rfl) (fun _ _ _ h => h) (Or.inl ⟨by rfl, ?_⟩) (by assumption) ?_
  rotate_left
  · intro w hSw; (try dsimp only at hSw); go_simp; try with_reducible rfl
  try simp only [Act.put, List.setIfInBounds_toArray, List.set_cons_zero, List.set_cons_succ]
  refine OrdU.wpAnyU_take (i := 12) (oi := ⟨some 45, _, _, _, _, none⟩) (v := ?_) rfl (by kernel_rfl) (by kernel_rfl) (by kernel_rfl) (by decide) (by kernel_rfl) (fun _ _ _ h => h) (Or.inl ⟨by rfl, ?_⟩) (by assumption) ?_
  rotate_left
  · intro w hSw; (try dsimp only at hSw); go_simp; try with_reducible rfl
  try simp only [Act.put, List.setIfInBounds_toArray, List.set_cons_zero, List.set_cons_succ]
  refine OrdU.wpAnyU_take (i := 13) (oi := ⟨some 46, _, _, _, _, none⟩) (v := ?_) rfl (by kernel_rfl) (by kernel_rfl) (by kernel_rfl) (by decide) (by kernel_rfl) (fun _ _ _ h => h) (Or.inl ⟨by rfl, ?_⟩) (by assumption) ?_
  rotate_left
  · intro w hSw; (try dsimp only at hSw); go_simp; try with_reducible rfl
  try simp only [Act.put, List.setIfInBounds_toArray, List.set_cons_zero, List.set_cons_succ]
  refine OrdU.wpAnyU_take (i := 14) (oi := ⟨some 47, _, _, _, _, none⟩) (v := ?_) rfl (by kernel_rfl) (by kernel_rfl) (by kernel_rfl) (by decide) (by kernel_rfl) (fun _ _ _ h => h) (Or.inl ⟨by rfl, ?_⟩) (by assumption) ?_
  rotate_left
  · intro w hSw; (try dsimp only at hSw); go_simp; try with_reducible rfl
  try simp only [Act.put, List.setIfInBounds_toArray, List.set_cons_zero, List.set_cons_succ]
  refine OrdU.wpAnyU_take (i := 15) (oi := ⟨some 48, _, _, _, _, none⟩) (v := ?_) rfl (by kernel_rfl) (by kernel_rfl) (by kernel_rfl) (by decide) (by kernel_rfl) (fun _ _ _ h => h) (Or.inl ⟨by rfl, ?_⟩) (by assumption) ?_
  rotate_left
  · intro w hSw; (try dsimp only at hSw); go_simp; try with_reducible rfl
  try simp only [Act.put, List.setIfInBounds_toArray, List.set_cons_zero, List.set_cons_succ]
  refine OrdU.wpAnyU_take (i := 16) (oi := ⟨some 49, _, _, _, _, none⟩) (v := ?_) rfl (by kernel_rfl) (by kernel_rfl) (by kernel_rfl) (by decide) (by kernel_rfl) (fun _ _ _ h => h) (Or.inl ⟨by rfl, ?_⟩) (by assumption) ?_
  rotate_left
  · intro w hSw; (try dsimp only at hSw); go_simp; try with_reducible rfl
  try simp only [Act.put, List.setIfInBounds_toArray, List.set_cons_zero, List.set_cons_succ]
  refine OrdU.wpAnyU_take (i := 17) (oi := ⟨some 50, _, _, _, _, none⟩) (v := ?_) rfl (by kernel_rfl) (by kernel_rfl) (by kernel_rfl) (by decide) (by kernel_rfl) (fun _ _ _ h => h) (Or.inl ⟨by rfl, ?_⟩) (by assumption) ?_
  rotate_left
  · intro w hSw; (try dsimp only at hSw); go_simp; try with_reducible rfl
  try simp only [Act.put, List.setIfInBounds_toArray, List.set_cons_zero, List.set_cons_succ]
  refine OrdU.wpAnyU_ready (rs := [10]) (by kernel_rfl) (by simp) ?_
  refine OrdU.AllReadyU.cons (o := ⟨some 43, _, _, _, _, none⟩) rfl (fun K' hK => ?_) OrdU.AllReadyU.nil
  go_simp
  go_at_call 80
  with_reducible refine (HO.out _).mono ?_
  rintro e w4 ⟨rfl, hb4⟩
  have hb5 := ((Below.refl _ _).drew).trans hb4
  obtain ⟨h4, hw4, b4⟩ := HC.out _ hb5
  obtain ⟨x0a, x1a⟩ := b4.two
  have L2 := lookA h4.cn.map t ht1 ht2
  rw [HACT.out] at L2
  have hC4 : (fun w' => w'.cell? ⟨K.g, 10, none⟩ = some (.slice A S.length c) ∧ w'.cell? ⟨K.g, 9, none⟩ = some (.map (some K.mb)) ∧ w'.cell? ⟨W2.heap.size, 0, none⟩ = some (.int .i64 t) ∧ w'.cell? ⟨W2.heap.size, 1, none⟩ = some (.int .i64 N) ∧ (Instr.lookup 61 (.map (some K.mb)) (.int .i64 t) false).run Tryz.prog w' = .ok (.func (.func fa) #[] ca) w') w4 := ⟨h4.cell 10, h4.cell 9, x0a, x1a, L2⟩
  go_wp2_with fail
  refine hK.out _ _ (fun _ => hC4) (fun hHeld => ?_)
  replace hHeld := hHeld (by kernel_rfl)
  clear hK K'
  try simp only [Act.put, List.setIfInBounds_toArray, List.set_cons_zero, List.set_cons_succ]
  refine OrdU.wpAnyU_take (i := 18) (oi := ⟨some 51, _, _, _, _, none⟩) (v := ?_) rfl (by kernel_rfl) (by kernel_rfl) (by kernel_rfl) (by decide) (by kernel_rfl) (fun _ _ _ h => h) (Or.inl ⟨by rfl, ?_⟩) (by assumption) ?_
  rotate_left
  · intro w hSw; (try dsimp only at hSw); go_simp; try with_reducible rfl
  try simp only [Act.put, List.setIfInBounds_toArray, List.set_cons_zero, List.set_cons_succ]
  have hb6 := (Below.refl w4.heap.size w4).alloc (Nat.le_refl _) (.cells #[.int .i64 t, .int .i64 N, .int .i64 k, .int .i64 ((k : Int) + 1), .int .i64 q, .int .i64 0, .int .i64 0, .func (.func fa) #[] ca] 161)
  have h6 := h4.below hb6
  have hw6 := hw4.below hb6
  have b6 := b4.below hb6 b4.lt
  obtain ⟨x0b, x1b⟩ := b6.two
  have L3 := lookA h6.cn.map t ht1 ht2
  rw [HACT.out] at L3
  have hC6 : (fun w' => w'.cell? ⟨K.g, 10, none⟩ = some (.slice A S.length c) ∧ w'.cell? ⟨K.g, 9, none⟩ = some (.map (some K.mb)) ∧ w'.cell? ⟨W2.heap.size, 0, none⟩ = some (.int .i64 t) ∧ w'.cell? ⟨W2.heap.size, 1, none⟩ = some (.int .i64 N) ∧ (Instr.lookup 61 (.map (some K.mb)) (.int .i64 t) false).run Tryz.prog w' = .ok (.func (.func fa) #[] ca) w') (w4.alloc (.cells #[.int .i64 t, .int .i64 N, .int .i64 k, .int .i64 ((k : Int) + 1), .int .i64 q, .int .i64 0, .int .i64 0, .func (.func fa) #[] ca] 161)) := ⟨h6.cell 10, h6.cell 9, x0b, x1b, L3⟩
  have hO6 := h6.sr
  have hsz4 := h4.cn.size
  refine OrdU.wpAnyU_ready (rs := [19]) (by kernel_rfl) (by simp) ?_
  refine OrdU.AllReadyU.cons (o := ⟨some 52, _, _, _, _, none⟩) rfl (fun K' hK => ?_) OrdU.AllReadyU.nil
  go_simp
  refine hK.out _ _ (fun _ => hC6) (fun hHeld => ?_)
  replace hHeld := hHeld (by kernel_rfl)
  clear hK K'
  try simp only [Act.put, List.setIfInBounds_toArray, List.set_cons_zero, List.set_cons_succ]
  refine OrdU.wpAnyU_ready (rs := [20]) (by kernel_rfl) (by simp) ?_
  refine OrdU.AllReadyU.cons (o := ⟨some 53, _, _, _, _, none⟩) rfl (fun K' hK => ?_) OrdU.AllReadyU.nil
  refine step_append_lies _ (by rfl) _ _ _ (by rfl) K.base 161 ig _ 8 64 Tryz.underlying62 hig hz0 hz1 hz2 rfl (by omega) _ S.length _ (by rfl) hO6 ⟨w4.heap.size, 0, none⟩ 1 1 [.int .i64 t, .int .i64 N, .int .i64 k, .int .i64 ((k : Int) + 1), .int .i64 q, .int .i64 0, .int .i64 0, .func (.func fa) #[] ca] (by rfl) (by rfl) (World.news_of_block (cs := #[.int .i64 t, .int .i64 N, .int .i64 k, .int .i64 ((k : Int) + 1), .int .i64 q, .int .i64 0, .int .i64 0, .func (.func fa) #[] ca]) (t := 161) (fr := (0, 0)) (heap_alloc_new w4 _)) (by simp [Value.oneCell']) (by omega) (by simp only [maxLen]; omega) (by omega) (by simp; omega) (w4.heap.size + 1) (by simp) ?_
  intro gg cap4 w5 hown hgr hat hlt5
  have hnb : ∀ i, κ i ≠ 5 → some i ≠ (Value.slice A S.length c).ownBlock := fun i hi z => hi (HL.out.s i z.symm)
  have bG := h6.blk.grown hgr (hnb _ (by rw [HL.out.g]; decide))
  have y4 : w5.cell? ⟨K.g, 10, none⟩ = some (.slice A S.length c) := bG.cell 10
  have yf := bG.frozen 10
  have b7 : Blk w5 W2.heap.size 47 #[.int .i64 t, .int .i64 N] := b6.grown hgr (fun z => by have q1 := HL.out.s _ z.symm; have q2 := HL.out.lt W2.heap.size (by omega); have q3 := HLT.out; omega)
  obtain ⟨x0c, x1c⟩ := b7.two
  have L4 := lookA (h6.cn.map.kept hgr (hnb _ (by rw [HL.out.c _ h6.cn.cmb]; decide))) t ht1 ht2
  rw [HACT.out] at L4
  have hC5 : (fun w' => w'.cell? ⟨K.g, 10, none⟩ = some (.slice A S.length c) ∧ w'.cell? ⟨K.g, 9, none⟩ = some (.map (some K.mb)) ∧ w'.cell? ⟨W2.heap.size, 0, none⟩ = some (.int .i64 t) ∧ w'.cell? ⟨W2.heap.size, 1, none⟩ = some (.int .i64 N) ∧ (Instr.lookup 61 (.map (some K.mb)) (.int .i64 t) false).run Tryz.prog w' = .ok (.func (.func fa) #[] ca) w') w5 := ⟨y4, bG.cell 9, x0c, x1c, L4⟩
  refine hK.out _ _ (fun _ => hC5) (fun hHeld => ?_)
  replace hHeld := hHeld (by kernel_rfl)
  clear hK K'
  try simp only [Act.put, List.setIfInBounds_toArray, List.set_cons_zero, List.set_cons_succ]
  refine OrdU.wpAnyU_ready (rs := [21]) (by kernel_rfl) (by simp) ?_
  refine OrdU.AllReadyU.cons (o := ⟨some 54, _, _, _, _, none⟩) rfl (fun K' hK => ?_) OrdU.AllReadyU.nil
  go_simp
  refine hK.out _ _ (fun _ => hC5) (fun hHeld => ?_)
  replace hHeld := hHeld (by kernel_rfl)
  clear hK K'
  try simp only [Act.put, List.setIfInBounds_toArray, List.set_cons_zero, List.set_cons_succ]
  refine OrdU.wpAnyU_ready (rs := [22]) (by kernel_rfl) (by simp) ?_
  refine OrdU.AllReadyU.cons (o := ⟨some 55, _, _, _, _, none⟩) rfl (fun K' hK => ?_) OrdU.AllReadyU.nil
  go_simp
  refine hK.out _ _ (fun _ => hC5) (fun hHeld => ?_)
  replace hHeld := hHeld (by kernel_rfl)
  clear hK K'
  try simp only [Act.put, List.setIfInBounds_toArray, List.set_cons_zero, List.set_cons_succ]
  refine OrdU.wpAnyU_ready (rs := [23]) (by kernel_rfl) (by simp) ?_
  refine OrdU.AllReadyU.cons (o := ⟨none, _, _, _, _, none⟩) rfl (fun K' hK => ?_) OrdU.AllReadyU.nil
  go_simp
  refine hK.out _ _ (OrdU.no (by kernel_rfl)) (fun _ => ?_)
  clear hK K'
  try simp only [Act.put, List.setIfInBounds_toArray, List.set_cons_zero, List.set_cons_succ]
  refine OrdU.wpAnyU_done (by kernel_rfl) ?_ _
  have hfc : fcells K.actv S ++ [.int .i64 t, .int .i64 N, .int .i64 k, .int .i64 ((k : Int) + 1), .int .i64 q, .int .i64 0, .int .i64 0, .func (.func fa) #[] ca] = fcells K.actv S ++ fcell K.actv (frame0 K.p.xs k) := by
    rw [HFR.out]
    unfold fcell doesV
    simp only
    rw [if_neg (by decide), HACT.out, HQ.out]
    simp
  obtain ⟨e1, e2⟩ := h6.push (sv' := .slice (some ⟨gg, 0, none⟩) (S.length + 1) cap4) (f := frame0 K.p.xs k) hgr (by rw [← hfc]; exact hown) (hat.imp (fun z => z.symm) (fun z => (congrArg some z).trans (by simp)))
  have hk := (hw6.grown hgr (fun i z => by rw [HL.out.s i z]; decide)).setCell (a := ⟨K.g, 10, none⟩) (.inl (by rw [HL.out.g]; decide)) (.slice (some ⟨gg, 0, none⟩) (S.length + 1) cap4)
  have hwt : Went κ _ W (w5.setCell ⟨K.g, 10, none⟩ (.slice (some ⟨gg, 0, none⟩) (S.length + 1) cap4)) := ⟨hk.kept, fun i z => by
    rcases e2 i z with q1 | q1
    · exact .inl q1
    · exact .inr (by have := hw4.kept.size; simp at q1; omega)⟩
  have HT := Lib.hid (Turn.on (c := (s.tick, frame0 K.p.xs k :: S)) e1 hwt HO0.out)
  clear e1 e2 hk hwt
  go_wp2_with fail
  go_ret
  exact HT.out
end
end Go.Proofs.YtodejloonfkkmaaGreat.Mach
