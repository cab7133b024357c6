/-
  Package machine, walked: a turn.
-/
import Derived.Test.YtodejloonfkkmaaGreatMachPActC
set_option linter.unusedVariables false
namespace Go.Proofs.YtodejloonfkkmaaGreat.Mach
open Go.RowKit Mem _root_.Go.Proofs.YtodejloonfkkmaaGreat.Arena _root_.Go.Proofs.YtodejloonfkkmaaGreat.Kinds _root_.Go.Proofs.YtodejloonfkkmaaGreat.Path _root_.Go.Proofs.YtodejloonfkkmaaGreat.Cat _root_.Go.Proofs.YtodejloonfkkmaaGreat.Suite
attribute [local go_sem ↓] Go.wp_at_zero Go.wp_at_succ

section
variable {K : PK} {κ : Nat → Nat} {evv sv : Value} {Y : List ((Option Addr × Nat) × List Int)} {s : St} {S : List Fr} {W W' : World}
set_option maxRecDepth 100000 in
set_option maxHeartbeats 2000000 in
theorem turn_do (t N : Int) (pos next : Nat) (x y : Int) (ag : Bool) (q : FuncId) (h : PM K κ evv sv Y s (⟨(t, N), pos, next, 0, x, y, ag⟩ :: S) W) (hl : S.length < 1000000) (hd : doesV K.actv ⟨(t, N), pos, next, 0, x, y, ag⟩ = .func (.func q) #[] #[])
    (hent : ∀ W : World, (callFunc q #[.pointer (some ⟨K.g, 0, none⟩), (.agg #[.int .i64 t, .int .i64 N, .int .i64 (pos : Nat), .int .i64 (next : Nat), .int .i64 0, .int .i64 x, .int .i64 y, .func (.func q) #[] #[]])]).run Tryz.prog W = .ok (.enter q #[.pointer (some ⟨K.g, 0, none⟩), (.agg #[.int .i64 t, .int .i64 N, .int .i64 (pos : Nat), .int .i64 (next : Nat), .int .i64 0, .int .i64 x, .int .i64 y, .func (.func q) #[] #[]])]) W)
    (hC : ∀ (sv' : Value) (W' : World), PM K κ evv sv' Y s S W' → Calls Tryz.prog q #[.pointer (some ⟨K.g, 0, none⟩), (.agg #[.int .i64 t, .int .i64 N, .int .i64 (pos : Nat), .int .i64 (next : Nat), .int .i64 0, .int .i64 x, .int .i64 y, .func (.func q) #[] #[]])] W' (Turn K κ W' (doC K.p.xs ⟨(t, N), pos, next, 0, x, y, ag⟩ (s, S)))) :
    Calls Tryz.prog 36 #[.pointer (some ⟨K.g, 0, none⟩)] W (Turn K κ W (stepC K.p.xs (s, ⟨(t, N), pos, next, 0, x, y, ag⟩ :: S))) := by
  rw [step_do rfl]
  obtain ⟨b, cap, rfl, hb, hb5, hne, hc, hfr, hcap⟩ := h.top
  have c10 : W.cell? ⟨K.g, 10, none⟩ = some (.slice (some ⟨b, 0, none⟩) (S.length + 1) cap) := h.cell 10
  have f10 := h.blk.frozen 10
  have k0 : W.cell? ⟨b, S.length * 8, none⟩ = some (.int .i64 t) := (hc 0).resolve_right (by omega)
  have k1 : W.cell? ⟨b, S.length * 8 + 1, none⟩ = some (.int .i64 N) := (hc 1).resolve_right (by omega)
  have k2 : W.cell? ⟨b, S.length * 8 + 2, none⟩ = some (.int .i64 (pos : Nat)) := (hc 2).resolve_right (by omega)
  have k3 : W.cell? ⟨b, S.length * 8 + 3, none⟩ = some (.int .i64 (next : Nat)) := (hc 3).resolve_right (by omega)
  have k4 : W.cell? ⟨b, S.length * 8 + 4, none⟩ = some (.int .i64 0) := (hc 4).resolve_right (by omega)
  have k5 : W.cell? ⟨b, S.length * 8 + 5, none⟩ = some (.int .i64 x) := (hc 5).resolve_right (by omega)
  have k6 : W.cell? ⟨b, S.length * 8 + 6, none⟩ = some (.int .i64 y) := (hc 6).resolve_right (by omega)
  have k7 : W.cell? ⟨b, S.length * 8 + 7, none⟩ = some (.func (.func q) #[] #[]) := ((hc 7).resolve_right (by omega)).trans (congrArg some hd)
  have hg1 := h.lab.g
  have h1 := h.pop.drew
  have hw1 := ((Went.refl κ W).setCell (a := ⟨K.g, 10, none⟩) (.inl (by show κ K.g ≠ 0; rw [h.lab.g]; decide)) (.slice (some ⟨b, 0, none⟩) S.length cap)).drew
  have HC := Lib.hid (hC _ _ h1)
  have HW := Lib.hid hw1
  have hq1 := hent (W.setCell ⟨K.g, 10, none⟩ (.slice (some ⟨b, 0, none⟩) S.length cap)).drew
  have hlt := (h.lab.lt b (by omega)).2
  have hgl := h.glt.2
  have e0 : ((S.length : Int) + 1 - 1) = S.length := by omega
  clear h h1 hw1 hc hfr hb hb5 hd hent hC hg1
  generalize hn : S.length = n at c10 k0 k1 k2 k3 k4 k5 k6 k7 hl HC HW hq1 hcap e0
  have v1 : IntKind.i64.wrap (n : Int) = n := IntWalk.i64_in _ (by omega)
  have i1 : (n : Int) < (n : Int) + 1 := by omega
  have i2 : (0 : Int) ≤ (n : Int) := by omega
  have i3 : (n : Int) ≤ (cap : Int) := by omega
  clear hn e0
  have hC0 : (fun w' => w'.cell? ⟨b, n * 8, none⟩ = some (.int .i64 t) ∧ w'.cell? ⟨b, n * 8 + 1, none⟩ = some (.int .i64 N) ∧ w'.cell? ⟨b, n * 8 + 2, none⟩ = some (.int .i64 (pos : Nat)) ∧ w'.cell? ⟨b, n * 8 + 3, none⟩ = some (.int .i64 (next : Nat)) ∧ w'.cell? ⟨b, n * 8 + 4, none⟩ = some (.int .i64 0) ∧ w'.cell? ⟨b, n * 8 + 5, none⟩ = some (.int .i64 x) ∧ w'.cell? ⟨b, n * 8 + 6, none⟩ = some (.int .i64 y) ∧ w'.cell? ⟨b, n * 8 + 7, none⟩ = some (.func (.func q) #[] #[])) (W.setCell ⟨K.g, 10, none⟩ (.slice (some ⟨b, 0, none⟩) n cap)).drew := by
    have ne : ∀ j, (⟨K.g, 10, none⟩ : Addr) ≠ ⟨b, j, none⟩ := fun j e => hne (congrArg Addr.block e).symm
    refine ⟨?_, ?_, ?_, ?_, ?_, ?_, ?_, ?_⟩
    all_goals
      show (W.setCell _ _).cell? _ = _
      rw [World.cell?_setCell_other _ _ _ _ (ne _)]
      assumption
  go_enter Tryz.func36, Tryz.ntmps36
  go_wp2_with fail
  refine OrdU.wp_region_U 8 (fun w' => w'.cell? ⟨b, n * 8, none⟩ = some (.int .i64 t) ∧ w'.cell? ⟨b, n * 8 + 1, none⟩ = some (.int .i64 N) ∧ w'.cell? ⟨b, n * 8 + 2, none⟩ = some (.int .i64 (pos : Nat)) ∧ w'.cell? ⟨b, n * 8 + 3, none⟩ = some (.int .i64 (next : Nat)) ∧ w'.cell? ⟨b, n * 8 + 4, none⟩ = some (.int .i64 0) ∧ w'.cell? ⟨b, n * 8 + 5, none⟩ = some (.int .i64 x) ∧ w'.cell? ⟨b, n * 8 + 6, none⟩ = some (.int .i64 y) ∧ w'.cell? ⟨b, n * 8 + 7, none⟩ = some (.func (.func q) #[] #[])) (by kernel_rfl) hC0 (fun hHeld => ?_)
  refine OrdU.wpAnyU_take (i := 0) (oi := ⟨some 32, _, _, _, _, none⟩) (v := ?_) rfl (by kernel_rfl) (by kernel_rfl) (by kernel_rfl) (by decide) (by kernel_rfl) (fun _ _ _ h => h) (Or.inl ⟨by rfl, ?_⟩) (by assumption) ?_
  rotate_left
  · intro w hSw; (try dsimp only at hSw); go_simp; try with_reducible rfl
  try simp only [Act.put, List.setIfInBounds_toArray, List.set_cons_zero, List.set_cons_succ]
  refine OrdU.wpAnyU_take (i := 1) (oi := ⟨some 33, _, _, _, _, none⟩) (v := ?_) rfl (by kernel_rfl) (by kernel_rfl) (by kernel_rfl) (by decide) (by kernel_rfl) (fun _ _ _ h => h) (Or.inl ⟨by rfl, ?_⟩) (by assumption) ?_
  rotate_left
  · intro w hSw; (try dsimp only at hSw); go_simp; try with_reducible rfl
  try simp only [Act.put, List.setIfInBounds_toArray, List.set_cons_zero, List.set_cons_succ]
  refine OrdU.wpAnyU_take (i := 2) (oi := ⟨some 34, _, _, _, _, none⟩) (v := ?_) rfl (by kernel_rfl) (by kernel_rfl) (by kernel_rfl) (by decide) (by kernel_rfl) (fun _ _ _ h => h) (Or.inl ⟨by rfl, ?_⟩) (by assumption) ?_
  rotate_left
  · intro w hSw; (try dsimp only at hSw); go_simp; try with_reducible rfl
  try simp only [Act.put, List.setIfInBounds_toArray, List.set_cons_zero, List.set_cons_succ]
  refine OrdU.wpAnyU_take (i := 3) (oi := ⟨some 35, _, _, _, _, none⟩) (v := ?_) rfl (by kernel_rfl) (by kernel_rfl) (by kernel_rfl) (by decide) (by kernel_rfl) (fun _ _ _ h => h) (Or.inl ⟨by rfl, ?_⟩) (by assumption) ?_
  rotate_left
  · intro w hSw; (try dsimp only at hSw); go_simp; try with_reducible rfl
  try simp only [Act.put, List.setIfInBounds_toArray, List.set_cons_zero, List.set_cons_succ]
  refine OrdU.wpAnyU_take (i := 4) (oi := ⟨some 36, _, _, _, _, none⟩) (v := ?_) rfl (by kernel_rfl) (by kernel_rfl) (by kernel_rfl) (by decide) (by kernel_rfl) (fun _ _ _ h => h) (Or.inl ⟨by rfl, ?_⟩) (by assumption) ?_
  rotate_left
  · intro w hSw; (try dsimp only at hSw); go_simp; try with_reducible rfl
  try simp only [Act.put, List.setIfInBounds_toArray, List.set_cons_zero, List.set_cons_succ]
  refine OrdU.wpAnyU_take (i := 5) (oi := ⟨some 37, _, _, _, _, none⟩) (v := ?_) rfl (by kernel_rfl) (by kernel_rfl) (by kernel_rfl) (by decide) (by kernel_rfl) (fun _ _ _ h => h) (Or.inl ⟨by rfl, ?_⟩) (by assumption) ?_
  rotate_left
  · intro w hSw; (try dsimp only at hSw); go_simp; try with_reducible rfl
  try simp only [Act.put, List.setIfInBounds_toArray, List.set_cons_zero, List.set_cons_succ]
  refine OrdU.wpAnyU_take (i := 6) (oi := ⟨some 38, _, _, _, _, none⟩) (v := ?_) rfl (by kernel_rfl) (by kernel_rfl) (by kernel_rfl) (by decide) (by kernel_rfl) (fun _ _ _ h => h) (Or.inl ⟨by rfl, ?_⟩) (by assumption) ?_
  rotate_left
  · intro w hSw; (try dsimp only at hSw); go_simp; try with_reducible rfl
  try simp only [Act.put, List.setIfInBounds_toArray, List.set_cons_zero, List.set_cons_succ]
  refine OrdU.wpAnyU_take (i := 7) (oi := ⟨some 39, _, _, _, _, none⟩) (v := ?_) rfl (by kernel_rfl) (by kernel_rfl) (by kernel_rfl) (by decide) (by kernel_rfl) (fun _ _ _ h => h) (Or.inl ⟨by rfl, ?_⟩) (by assumption) ?_
  rotate_left
  · intro w hSw; (try dsimp only at hSw); go_simp; try with_reducible rfl
  try simp only [Act.put, List.setIfInBounds_toArray, List.set_cons_zero, List.set_cons_succ]
  refine OrdU.wpAnyU_ready (rs := [8]) (by kernel_rfl) (by simp) ?_
  refine OrdU.AllReadyU.cons (o := ⟨some 40, _, _, _, _, none⟩) rfl (fun K' hK => ?_) OrdU.AllReadyU.nil
  go_simp
  with_reducible refine HC.out.mono ?_
  rintro e w2 hT
  obtain ⟨hTT, v, rfl⟩ := hT.ends HW.out
  have HTT := Lib.hid hTT
  clear hTT hT
  go_wp2_with fail
  refine hK.out _ _ (OrdU.no (by kernel_rfl)) (fun _ => ?_)
  clear hK K'
  try simp only [Act.put, List.setIfInBounds_toArray, List.set_cons_zero, List.set_cons_succ]
  refine OrdU.wpAnyU_ready (rs := [9]) (by kernel_rfl) (by simp) ?_
  refine OrdU.AllReadyU.cons (o := ⟨some 2, _, _, _, _, none⟩) rfl (fun K' hK => ?_) OrdU.AllReadyU.nil
  go_simp
  refine hK.out _ _ (OrdU.no (by kernel_rfl)) (fun _ => ?_)
  clear hK K'
  try simp only [Act.put, List.setIfInBounds_toArray, List.set_cons_zero, List.set_cons_succ]
  refine OrdU.wpAnyU_done (by kernel_rfl) ?_ _
  go_wp2_with fail
  go_ret
  exact HTT.out
set_option maxRecDepth 100000 in
set_option maxHeartbeats 2000000 in
theorem turn_doP (t N : Int) (pos next : Nat) (x y : Int) (ag : Bool) (q : FuncId) (cb : Nat) (h : PM K κ evv sv Y s (⟨(t, N), pos, next, 0, x, y, ag⟩ :: S) W) (hl : S.length < 1000000) (hd : doesV K.actv ⟨(t, N), pos, next, 0, x, y, ag⟩ = .func (.func q) #[] #[.pointer (some ⟨cb, 0, none⟩)])
    (hent : ∀ W : World, (callFunc q #[.pointer (some ⟨K.g, 0, none⟩), (.agg #[.int .i64 t, .int .i64 N, .int .i64 (pos : Nat), .int .i64 (next : Nat), .int .i64 0, .int .i64 x, .int .i64 y, .func (.func q) #[] #[.pointer (some ⟨cb, 0, none⟩)]]), .pointer (some ⟨cb, 0, none⟩)]).run Tryz.prog W = .ok (.enter q #[.pointer (some ⟨K.g, 0, none⟩), (.agg #[.int .i64 t, .int .i64 N, .int .i64 (pos : Nat), .int .i64 (next : Nat), .int .i64 0, .int .i64 x, .int .i64 y, .func (.func q) #[] #[.pointer (some ⟨cb, 0, none⟩)]]), .pointer (some ⟨cb, 0, none⟩)]) W)
    (hC : ∀ (sv' : Value) (W' : World), PM K κ evv sv' Y s S W' → Calls Tryz.prog q #[.pointer (some ⟨K.g, 0, none⟩), (.agg #[.int .i64 t, .int .i64 N, .int .i64 (pos : Nat), .int .i64 (next : Nat), .int .i64 0, .int .i64 x, .int .i64 y, .func (.func q) #[] #[.pointer (some ⟨cb, 0, none⟩)]]), .pointer (some ⟨cb, 0, none⟩)] W' (Turn K κ W' (doC K.p.xs ⟨(t, N), pos, next, 0, x, y, ag⟩ (s, S)))) :
    Calls Tryz.prog 36 #[.pointer (some ⟨K.g, 0, none⟩)] W (Turn K κ W (stepC K.p.xs (s, ⟨(t, N), pos, next, 0, x, y, ag⟩ :: S))) := by
  rw [step_do rfl]
  obtain ⟨b, cap, rfl, hb, hb5, hne, hc, hfr, hcap⟩ := h.top
  have c10 : W.cell? ⟨K.g, 10, none⟩ = some (.slice (some ⟨b, 0, none⟩) (S.length + 1) cap) := h.cell 10
  have f10 := h.blk.frozen 10
  have k0 : W.cell? ⟨b, S.length * 8, none⟩ = some (.int .i64 t) := (hc 0).resolve_right (by omega)
  have k1 : W.cell? ⟨b, S.length * 8 + 1, none⟩ = some (.int .i64 N) := (hc 1).resolve_right (by omega)
  have k2 : W.cell? ⟨b, S.length * 8 + 2, none⟩ = some (.int .i64 (pos : Nat)) := (hc 2).resolve_right (by omega)
  have k3 : W.cell? ⟨b, S.length * 8 + 3, none⟩ = some (.int .i64 (next : Nat)) := (hc 3).resolve_right (by omega)
  have k4 : W.cell? ⟨b, S.length * 8 + 4, none⟩ = some (.int .i64 0) := (hc 4).resolve_right (by omega)
  have k5 : W.cell? ⟨b, S.length * 8 + 5, none⟩ = some (.int .i64 x) := (hc 5).resolve_right (by omega)
  have k6 : W.cell? ⟨b, S.length * 8 + 6, none⟩ = some (.int .i64 y) := (hc 6).resolve_right (by omega)
  have k7 : W.cell? ⟨b, S.length * 8 + 7, none⟩ = some (.func (.func q) #[] #[.pointer (some ⟨cb, 0, none⟩)]) := ((hc 7).resolve_right (by omega)).trans (congrArg some hd)
  have hg1 := h.lab.g
  have h1 := h.pop.drew
  have hw1 := ((Went.refl κ W).setCell (a := ⟨K.g, 10, none⟩) (.inl (by show κ K.g ≠ 0; rw [h.lab.g]; decide)) (.slice (some ⟨b, 0, none⟩) S.length cap)).drew
  have HC := Lib.hid (hC _ _ h1)
  have HW := Lib.hid hw1
  have hq1 := hent (W.setCell ⟨K.g, 10, none⟩ (.slice (some ⟨b, 0, none⟩) S.length cap)).drew
  have hlt := (h.lab.lt b (by omega)).2
  have hgl := h.glt.2
  have e0 : ((S.length : Int) + 1 - 1) = S.length := by omega
  clear h h1 hw1 hc hfr hb hb5 hd hent hC hg1
  generalize hn : S.length = n at c10 k0 k1 k2 k3 k4 k5 k6 k7 hl HC HW hq1 hcap e0
  have v1 : IntKind.i64.wrap (n : Int) = n := IntWalk.i64_in _ (by omega)
  have i1 : (n : Int) < (n : Int) + 1 := by omega
  have i2 : (0 : Int) ≤ (n : Int) := by omega
  have i3 : (n : Int) ≤ (cap : Int) := by omega
  clear hn e0
  have hC0 : (fun w' => w'.cell? ⟨b, n * 8, none⟩ = some (.int .i64 t) ∧ w'.cell? ⟨b, n * 8 + 1, none⟩ = some (.int .i64 N) ∧ w'.cell? ⟨b, n * 8 + 2, none⟩ = some (.int .i64 (pos : Nat)) ∧ w'.cell? ⟨b, n * 8 + 3, none⟩ = some (.int .i64 (next : Nat)) ∧ w'.cell? ⟨b, n * 8 + 4, none⟩ = some (.int .i64 0) ∧ w'.cell? ⟨b, n * 8 + 5, none⟩ = some (.int .i64 x) ∧ w'.cell? ⟨b, n * 8 + 6, none⟩ = some (.int .i64 y) ∧ w'.cell? ⟨b, n * 8 + 7, none⟩ = some (.func (.func q) #[] #[.pointer (some ⟨cb, 0, none⟩)])) (W.setCell ⟨K.g, 10, none⟩ (.slice (some ⟨b, 0, none⟩) n cap)).drew := by
    have ne : ∀ j, (⟨K.g, 10, none⟩ : Addr) ≠ ⟨b, j, none⟩ := fun j e => hne (congrArg Addr.block e).symm
    refine ⟨?_, ?_, ?_, ?_, ?_, ?_, ?_, ?_⟩
    all_goals
      show (W.setCell _ _).cell? _ = _
      rw [World.cell?_setCell_other _ _ _ _ (ne _)]
      assumption
  go_enter Tryz.func36, Tryz.ntmps36
  go_wp2_with fail
  refine OrdU.wp_region_U 8 (fun w' => w'.cell? ⟨b, n * 8, none⟩ = some (.int .i64 t) ∧ w'.cell? ⟨b, n * 8 + 1, none⟩ = some (.int .i64 N) ∧ w'.cell? ⟨b, n * 8 + 2, none⟩ = some (.int .i64 (pos : Nat)) ∧ w'.cell? ⟨b, n * 8 + 3, none⟩ = some (.int .i64 (next : Nat)) ∧ w'.cell? ⟨b, n * 8 + 4, none⟩ = some (.int .i64 0) ∧ w'.cell? ⟨b, n * 8 + 5, none⟩ = some (.int .i64 x) ∧ w'.cell? ⟨b, n * 8 + 6, none⟩ = some (.int .i64 y) ∧ w'.cell? ⟨b, n * 8 + 7, none⟩ = some (.func (.func q) #[] #[.pointer (some ⟨cb, 0, none⟩)])) (by kernel_rfl) hC0 (fun hHeld => ?_)
  refine OrdU.wpAnyU_take (i := 0) (oi := ⟨some 32, _, _, _, _, none⟩) (v := ?_) rfl (by kernel_rfl) (by kernel_rfl) (by kernel_rfl) (by decide) (by kernel_rfl) (fun _ _ _ h => h) (Or.inl ⟨by rfl, ?_⟩) (by assumption) ?_
  rotate_left
  · intro w hSw; (try dsimp only at hSw); go_simp; try with_reducible rfl
  try simp only [Act.put, List.setIfInBounds_toArray, List.set_cons_zero, List.set_cons_succ]
  refine OrdU.wpAnyU_take (i := 1) (oi := ⟨some 33, _, _, _, _, none⟩) (v := ?_) rfl (by kernel_rfl) (by kernel_rfl) (by kernel_rfl) (by decide) (by kernel_rfl) (fun _ _ _ h => h) (Or.inl ⟨by rfl, ?_⟩) (by assumption) ?_
  rotate_left
  · intro w hSw; (try dsimp only at hSw); go_simp; try with_reducible rfl
  try simp only [Act.put, List.setIfInBounds_toArray, List.set_cons_zero, List.set_cons_succ]
  refine OrdU.wpAnyU_take (i := 2) (oi := ⟨some 34, _, _, _, _, none⟩) (v := ?_) rfl (by kernel_rfl) (by kernel_rfl) (by kernel_rfl) (by decide) (by kernel_rfl) (fun _ _ _ h => h) (Or.inl ⟨by rfl, ?_⟩) (by assumption) ?_
  rotate_left
  · intro w hSw; (try dsimp only at hSw); go_simp; try with_reducible rfl
  try simp only [Act.put, List.setIfInBounds_toArray, List.set_cons_zero, List.set_cons_succ]
  refine OrdU.wpAnyU_take (i := 3) (oi := ⟨some 35, _, _, _, _, none⟩) (v := ?_) rfl (by kernel_rfl) (by kernel_rfl) (by kernel_rfl) (by decide) (by kernel_rfl) (fun _ _ _ h => h) (Or.inl ⟨by rfl, ?_⟩) (by assumption) ?_
  rotate_left
  · intro w hSw; (try dsimp only at hSw); go_simp; try with_reducible rfl
  try simp only [Act.put, List.setIfInBounds_toArray, List.set_cons_zero, List.set_cons_succ]
  refine OrdU.wpAnyU_take (i := 4) (oi := ⟨some 36, _, _, _, _, none⟩) (v := ?_) rfl (by kernel_rfl) (by kernel_rfl) (by kernel_rfl) (by decide) (by kernel_rfl) (fun _ _ _ h => h) (Or.inl ⟨by rfl, ?_⟩) (by assumption) ?_
  rotate_left
  · intro w hSw; (try dsimp only at hSw); go_simp; try with_reducible rfl
  try simp only [Act.put, List.setIfInBounds_toArray, List.set_cons_zero, List.set_cons_succ]
  refine OrdU.wpAnyU_take (i := 5) (oi := ⟨some 37, _, _, _, _, none⟩) (v := ?_) rfl (by kernel_rfl) (by kernel_rfl) (by kernel_rfl) (by decide) (by kernel_rfl) (fun _ _ _ h => h) (Or.inl ⟨by rfl, ?_⟩) (by assumption) ?_
  rotate_left
  · intro w hSw; (try dsimp only at hSw); go_simp; try with_reducible rfl
  try simp only [Act.put, List.setIfInBounds_toArray, List.set_cons_zero, List.set_cons_succ]
  refine OrdU.wpAnyU_take (i := 6) (oi := ⟨some 38, _, _, _, _, none⟩) (v := ?_) rfl (by kernel_rfl) (by kernel_rfl) (by kernel_rfl) (by decide) (by kernel_rfl) (fun _ _ _ h => h) (Or.inl ⟨by rfl, ?_⟩) (by assumption) ?_
  rotate_left
  · intro w hSw; (try dsimp only at hSw); go_simp; try with_reducible rfl
  try simp only [Act.put, List.setIfInBounds_toArray, List.set_cons_zero, List.set_cons_succ]
  refine OrdU.wpAnyU_take (i := 7) (oi := ⟨some 39, _, _, _, _, none⟩) (v := ?_) rfl (by kernel_rfl) (by kernel_rfl) (by kernel_rfl) (by decide) (by kernel_rfl) (fun _ _ _ h => h) (Or.inl ⟨by rfl, ?_⟩) (by assumption) ?_
  rotate_left
  · intro w hSw; (try dsimp only at hSw); go_simp; try with_reducible rfl
  try simp only [Act.put, List.setIfInBounds_toArray, List.set_cons_zero, List.set_cons_succ]
  refine OrdU.wpAnyU_ready (rs := [8]) (by kernel_rfl) (by simp) ?_
  refine OrdU.AllReadyU.cons (o := ⟨some 40, _, _, _, _, none⟩) rfl (fun K' hK => ?_) OrdU.AllReadyU.nil
  go_simp
  with_reducible refine HC.out.mono ?_
  rintro e w2 hT
  obtain ⟨hTT, v, rfl⟩ := hT.ends HW.out
  have HTT := Lib.hid hTT
  clear hTT hT
  go_wp2_with fail
  refine hK.out _ _ (OrdU.no (by kernel_rfl)) (fun _ => ?_)
  clear hK K'
  try simp only [Act.put, List.setIfInBounds_toArray, List.set_cons_zero, List.set_cons_succ]
  refine OrdU.wpAnyU_ready (rs := [9]) (by kernel_rfl) (by simp) ?_
  refine OrdU.AllReadyU.cons (o := ⟨some 2, _, _, _, _, none⟩) rfl (fun K' hK => ?_) OrdU.AllReadyU.nil
  go_simp
  refine hK.out _ _ (OrdU.no (by kernel_rfl)) (fun _ => ?_)
  clear hK K'
  try simp only [Act.put, List.setIfInBounds_toArray, List.set_cons_zero, List.set_cons_succ]
  refine OrdU.wpAnyU_done (by kernel_rfl) ?_ _
  go_wp2_with fail
  go_ret
  exact HTT.out
set_option maxRecDepth 100000 in
set_option maxHeartbeats 2000000 in
theorem turn_kid {f : Fr} {j : Nat} (h : PM K κ evv sv Y s (f :: S) W) (hf : f.owed = j + 1) (hL : Live K s (f :: S)) (hj : j ≤ 1000000) (hk : IsNode K.p.xs f.next) :
    Calls Tryz.prog 36 #[.pointer (some ⟨K.g, 0, none⟩)] W (Turn K κ W (stepC K.p.xs (s, f :: S))) := by
  rw [step_owed hf rfl]
  obtain ⟨b, cap, rfl, hb, hb5, hne, hc, hfr, hcap⟩ := h.top
  have c10 : W.cell? ⟨K.g, 10, none⟩ = some (.slice (some ⟨b, 0, none⟩) (S.length + 1) cap) := h.cell 10
  have c5 : W.cell? ⟨K.g, 5, none⟩ = some (.slice (some ⟨K.eb, 0, none⟩) K.p.xs.length K.ec) := h.cell 5
  have k3 : W.cell? ⟨b, S.length * 8 + 3, none⟩ = some (.int .i64 f.next) := (hc 3).resolve_right (by omega)
  have k4 : W.cell? ⟨b, S.length * 8 + 4, none⟩ = some (.int .i64 ((j : Int) + 1)) := ((hc 4).resolve_right (by omega)).trans (by unfold fcell; rw [hf]; simp)
  have f3 := hfr (S.length * 8 + 3)
  have f4 := hfr (S.length * 8 + 4)
  have ce := h.cn.ends f.next hk
  have ne : ∀ i i', (⟨b, i, none⟩ : Addr) ≠ ⟨K.eb, i', none⟩ := fun i i' e => by
    have := congrArg Addr.block e
    have h6 := h.lab.c _ h.cn.ceb
    simp only at this
    rw [← this] at h6
    omega
  have ceA : (W.setCell ⟨b, S.length * 8 + 4, none⟩ (.int .i64 j)).cell? ⟨K.eb, f.next, none⟩ = some (.int .i64 (behind K.p.xs f.next)) := by
    rw [World.cell?_setCell_other _ _ _ _ (ne _ _)]; exact ce
  have h1 := h.set_s hb (S.length * 8 + 4) (.int .i64 (j : Int)) (S' := { f with owed := j } :: S) rfl (by rw [fcells_set]; rfl)
  have h2 := h1.set_s hb (S.length * 8 + 3) (.int .i64 (behind K.p.xs f.next : Nat)) (S' := { f with owed := j, next := behind K.p.xs f.next } :: S) rfl (by rw [fcells_set]; rfl)
  have hw := ((Went.refl κ W).setCell (a := ⟨b, S.length * 8 + 4, none⟩) (.inl (by show κ b ≠ 0; omega)) (.int .i64 (j : Int))).setCell (a := ⟨b, S.length * 8 + 3, none⟩) (.inl (by show κ b ≠ 0; omega)) (.int .i64 (behind K.p.xs f.next : Nat))
  have HT := Lib.hid (enter_any16 h2 ⟨hL.on, hL.sum, hL.top, hL.few⟩ hk)
  have HW := Lib.hid hw
  have hlt := (h.lab.lt b (by omega)).2
  have hgl := h.glt.2
  have hll := hL.hl
  simp only [List.length_cons] at hll
  have hgk := hk.get
  have hnl : (f.next : Int) < (K.p.xs.length : Int) := by obtain ⟨_, _, _, _, _, q, _⟩ := hgk; omega
  have hlx := h.cn.lx
  clear h h1 h2 hw hc hfr hb hb5 hL hk hf ne hgk ce
  generalize hbh : ((behind K.p.xs f.next : Nat) : Int) = bh at HT HW ceA
  generalize hfn : f.next = fn at *
  have i5 : (0 : Int) ≤ (fn : Int) := by omega
  generalize hn : S.length = n at c10 k3 k4 f3 f4 hll HT HW hcap ceA
  have v1 : IntKind.i64.wrap (n : Int) = n := IntWalk.i64_in _ (by omega)
  have v2 : IntKind.i64.wrap (j : Int) = j := IntWalk.i64_in _ (by omega)
  have i1 : (n : Int) < (n : Int) + 1 := by omega
  have i2 : (0 : Int) ≤ (n : Int) := by omega
  have i3 : ((j : Int) + 1 == 0) = false := by simp; omega
  clear hn hfn hbh
  go_enter Tryz.func36, Tryz.ntmps36
  go_wp2_with (first | (go_at_call 34; (with_reducible refine HT.out.mono ?_); rintro e w2 hT; obtain ⟨hTT, v, rfl⟩ := hT.ends HW.out; have HTT := Lib.hid hTT; clear hTT hT) | fail)
  go_ret
  exact HTT.out
end
end Go.Proofs.YtodejloonfkkmaaGreat.Mach
