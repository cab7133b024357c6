/-
  Package machine, walked: what nodes do once the kids that they are owed have ended (the others).
-/
import Derived.Test.YtodejloonfkkmaaGreatMachPActA
import Derived.Deep.RegionLaw
import Derived.Deep.AppendLies
import Derived.Laws.EntriesVeiled
set_option linter.unusedVariables false
namespace Go.Proofs.YtodejloonfkkmaaGreat.Mach
open Go.RowKit Mem _root_.Go.Proofs.YtodejloonfkkmaaGreat.Arena _root_.Go.Proofs.YtodejloonfkkmaaGreat.Kinds _root_.Go.Proofs.YtodejloonfkkmaaGreat.Path _root_.Go.Proofs.YtodejloonfkkmaaGreat.Cat _root_.Go.Proofs.YtodejloonfkkmaaGreat.Suite
attribute [local go_sem ↓] Go.wp_at_zero Go.wp_at_succ

section
variable {K : PK} {κ : Nat → Nat} {evv sv : Value} {Y : List ((Option Addr × Nat) × List Int)} {s : St} {S : List Fr} {W W' : World}
/-- Where a variable lies. -/
theorem PM.var (h : PM K κ evv sv Y s S W) {m : Nat} {z : Int} (hm : s.vals[m]? = some z) : ∃ b c, K.vv = .slice (some ⟨b, 0, none⟩) s.vals.length c ∧ K.vv.ownBlock = some b ∧ W.cell? ⟨b, m, none⟩ = some (.int .i64 z) ∧ (∀ j, W.frozen? ⟨b, j, none⟩ = false) := by
  have hl := (List.getElem?_eq_some_iff.1 hm).1
  obtain ⟨b, c, hv, hb⟩ := own_block h.vr (by omega)
  have hr := h.vr
  rw [hv] at hr
  refine ⟨b, c, hv, hb, own_read hr hm, fun j => ?_⟩
  exact World.ownsRow.frozenAt hr j
/-- Where an array lies. -/
theorem PM.arr (h : PM K κ evv sv Y s S W) {m : Nat} (hm : m < s.arrs.length) : ∃ b c y, K.av = .slice (some ⟨b, 0, none⟩) s.arrs.length c ∧ Y[m]? = some y ∧ y.2 = arr s m ∧ W.cell? ⟨b, m, none⟩ = some (.slice y.1.1 y.2.length y.1.2) := by
  obtain ⟨b, c, hv, hb⟩ := own_block h.ar (by omega)
  have hr := h.ar
  rw [hv] at hr
  have hY := h.hY
  obtain ⟨y, hy⟩ : ∃ y, Y[m]? = some y := ⟨_, List.getElem?_eq_getElem (by rw [← hY, List.length_map] at hm; exact hm)⟩
  refine ⟨b, c, y, hv, hy, ?_, ?_⟩
  · unfold Mach.arr
    rw [← hY, Int.toNat_natCast, List.getD_eq_getElem?_getD, List.getElem?_map, hy]; rfl
  · rw [World.ownsRow.cellAt hr m (by omega)]
    unfold tcells
    rw [List.getElem?_map, hy]; rfl
/-- Where an array's element lies. -/
theorem PM.elem (h : PM K κ evv sv Y s S W) {m j : Nat} {y : (Option Addr × Nat) × List Int} {z : Int} (hy : Y[m]? = some y) (hj : y.2[j]? = some z) : ∃ b, y.1.1 = some ⟨b, 0, none⟩ ∧ (Value.slice y.1.1 y.2.length y.1.2).ownBlock = some b ∧ W.cell? ⟨b, j, none⟩ = some (.int .i64 z) ∧ (∀ j, W.frozen? ⟨b, j, none⟩ = false) := by
  have hl := (List.getElem?_eq_some_iff.1 hj).1
  have hr := h.yr m y hy
  obtain ⟨b, c, hv, hb⟩ := own_block hr (by omega)
  have e1 : y.1.1 = some ⟨b, 0, none⟩ := (Value.slice.inj hv).1
  refine ⟨b, e1, hb, ?_, ?_⟩
  · rw [e1] at hr
    exact own_read hr hj
  · rw [e1] at hr
    exact fun j => World.ownsRow.frozenAt hr j
set_option maxRecDepth 100000 in
set_option maxHeartbeats 2000000 in
theorem act_divided_0 (h : PM K κ evv sv Y s S W) (hL : Live K s S) (t N : Int) (pos next owed : Nat) (x y : Int) (fa : FuncId) (ca : Array Value) (c : Nat) (hy : y = 0) : Calls Tryz.prog 111 #[.pointer (some ⟨K.g, 0, none⟩), .agg #[.int .i64 t, .int .i64 N, .int .i64 (pos : Nat), .int .i64 (next : Nat), .int .i64 (owed : Nat), .int .i64 x, .int .i64 y, .func (.func fa) #[] ca], .pointer (some ⟨c, 0, none⟩)] W (Turn K κ W (s.stop 1 0, S)) := by
  have hb1 := (Below.refl W.heap.size W).alloc (Nat.le_refl _) (.cells #[.int .i64 t, .int .i64 N, .int .i64 (pos : Nat), .int .i64 (next : Nat), .int .i64 (owed : Nat), .int .i64 x, .int .i64 y, .func (.func fa) #[] ca] 161)
  have bX := Blk.new W 161 #[.int .i64 t, .int .i64 N, .int .i64 (pos : Nat), .int .i64 (next : Nat), .int .i64 (owed : Nat), .int .i64 x, .int .i64 y, .func (.func fa) #[] ca]
  have x0 : (W.alloc (.cells #[.int .i64 t, .int .i64 N, .int .i64 (pos : Nat), .int .i64 (next : Nat), .int .i64 (owed : Nat), .int .i64 x, .int .i64 y, .func (.func fa) #[] ca] 161)).cell? ⟨W.heap.size, 0, none⟩ = some (.int .i64 t) := bX.cell 0
  have x1 : (W.alloc (.cells #[.int .i64 t, .int .i64 N, .int .i64 (pos : Nat), .int .i64 (next : Nat), .int .i64 (owed : Nat), .int .i64 x, .int .i64 y, .func (.func fa) #[] ca] 161)).cell? ⟨W.heap.size, 1, none⟩ = some (.int .i64 N) := bX.cell 1
  have x2 : (W.alloc (.cells #[.int .i64 t, .int .i64 N, .int .i64 (pos : Nat), .int .i64 (next : Nat), .int .i64 (owed : Nat), .int .i64 x, .int .i64 y, .func (.func fa) #[] ca] 161)).cell? ⟨W.heap.size, 2, none⟩ = some (.int .i64 pos) := bX.cell 2
  have x3 : (W.alloc (.cells #[.int .i64 t, .int .i64 N, .int .i64 (pos : Nat), .int .i64 (next : Nat), .int .i64 (owed : Nat), .int .i64 x, .int .i64 y, .func (.func fa) #[] ca] 161)).cell? ⟨W.heap.size, 3, none⟩ = some (.int .i64 next) := bX.cell 3
  have x4 : (W.alloc (.cells #[.int .i64 t, .int .i64 N, .int .i64 (pos : Nat), .int .i64 (next : Nat), .int .i64 (owed : Nat), .int .i64 x, .int .i64 y, .func (.func fa) #[] ca] 161)).cell? ⟨W.heap.size, 4, none⟩ = some (.int .i64 owed) := bX.cell 4
  have x5 : (W.alloc (.cells #[.int .i64 t, .int .i64 N, .int .i64 (pos : Nat), .int .i64 (next : Nat), .int .i64 (owed : Nat), .int .i64 x, .int .i64 y, .func (.func fa) #[] ca] 161)).cell? ⟨W.heap.size, 5, none⟩ = some (.int .i64 x) := bX.cell 5
  have x6 : (W.alloc (.cells #[.int .i64 t, .int .i64 N, .int .i64 (pos : Nat), .int .i64 (next : Nat), .int .i64 (owed : Nat), .int .i64 x, .int .i64 y, .func (.func fa) #[] ca] 161)).cell? ⟨W.heap.size, 6, none⟩ = some (.int .i64 y) := bX.cell 6
  have x7 : (W.alloc (.cells #[.int .i64 t, .int .i64 N, .int .i64 (pos : Nat), .int .i64 (next : Nat), .int .i64 (owed : Nat), .int .i64 x, .int .i64 y, .func (.func fa) #[] ca] 161)).cell? ⟨W.heap.size, 7, none⟩ = some (.func (.func fa) #[] ca) := bX.cell 7
  have h1 := h.below hb1
  have hw1 := (Went.refl κ W).below hb1
  have hl := hL.hl
  have ho := hL.on
  have HT := Lib.hid (Turn.stopped h1 hw1 ho 1)
  subst hy
  clear h h1 hw1 hb1 bX hL ho hl
  go_enter Tryz.func111, Tryz.ntmps111
  go_wp2_with fail
  go_ret
  exact HT.out
set_option maxRecDepth 100000 in
set_option maxHeartbeats 2000000 in
theorem act_divided (h : PM K κ evv sv Y s S W) (hL : Live K s S) (t N : Int) (pos next owed : Nat) (x y : Int) (fa : FuncId) (ca : Array Value) (b c : Nat) (q : FuncId) (F : Int → Int → Int) (hy : y ≠ 0) (hbc : BoxIn W K.cst c 154 (.func (.func 110) #[] #[.pointer (some ⟨b, 0, none⟩)])) (hbx : BoxIn W K.cst b 156 (.func (.func q) #[] #[])) (hF : ∀ w : World, Calls Tryz.prog q #[.int .i64 x, .int .i64 y] w fun e w' => e = .returned (.int .i64 (F x y)) ∧ w' = w) (hq : ∀ w : World, (callFunc q #[.int .i64 x, .int .i64 y]).run Tryz.prog w = .ok (.enter q #[.int .i64 x, .int .i64 y]) w) : Calls Tryz.prog 111 #[.pointer (some ⟨K.g, 0, none⟩), .agg #[.int .i64 t, .int .i64 N, .int .i64 (pos : Nat), .int .i64 (next : Nat), .int .i64 (owed : Nat), .int .i64 x, .int .i64 y, .func (.func fa) #[] ca], .pointer (some ⟨c, 0, none⟩)] W (Turn K κ W (tellC (F x y) (s, S))) := by
  have hb1 := (Below.refl W.heap.size W).alloc (Nat.le_refl _) (.cells #[.int .i64 t, .int .i64 N, .int .i64 (pos : Nat), .int .i64 (next : Nat), .int .i64 (owed : Nat), .int .i64 x, .int .i64 y, .func (.func fa) #[] ca] 161)
  have bX := Blk.new W 161 #[.int .i64 t, .int .i64 N, .int .i64 (pos : Nat), .int .i64 (next : Nat), .int .i64 (owed : Nat), .int .i64 x, .int .i64 y, .func (.func fa) #[] ca]
  have x0 : (W.alloc (.cells #[.int .i64 t, .int .i64 N, .int .i64 (pos : Nat), .int .i64 (next : Nat), .int .i64 (owed : Nat), .int .i64 x, .int .i64 y, .func (.func fa) #[] ca] 161)).cell? ⟨W.heap.size, 0, none⟩ = some (.int .i64 t) := bX.cell 0
  have x1 : (W.alloc (.cells #[.int .i64 t, .int .i64 N, .int .i64 (pos : Nat), .int .i64 (next : Nat), .int .i64 (owed : Nat), .int .i64 x, .int .i64 y, .func (.func fa) #[] ca] 161)).cell? ⟨W.heap.size, 1, none⟩ = some (.int .i64 N) := bX.cell 1
  have x2 : (W.alloc (.cells #[.int .i64 t, .int .i64 N, .int .i64 (pos : Nat), .int .i64 (next : Nat), .int .i64 (owed : Nat), .int .i64 x, .int .i64 y, .func (.func fa) #[] ca] 161)).cell? ⟨W.heap.size, 2, none⟩ = some (.int .i64 pos) := bX.cell 2
  have x3 : (W.alloc (.cells #[.int .i64 t, .int .i64 N, .int .i64 (pos : Nat), .int .i64 (next : Nat), .int .i64 (owed : Nat), .int .i64 x, .int .i64 y, .func (.func fa) #[] ca] 161)).cell? ⟨W.heap.size, 3, none⟩ = some (.int .i64 next) := bX.cell 3
  have x4 : (W.alloc (.cells #[.int .i64 t, .int .i64 N, .int .i64 (pos : Nat), .int .i64 (next : Nat), .int .i64 (owed : Nat), .int .i64 x, .int .i64 y, .func (.func fa) #[] ca] 161)).cell? ⟨W.heap.size, 4, none⟩ = some (.int .i64 owed) := bX.cell 4
  have x5 : (W.alloc (.cells #[.int .i64 t, .int .i64 N, .int .i64 (pos : Nat), .int .i64 (next : Nat), .int .i64 (owed : Nat), .int .i64 x, .int .i64 y, .func (.func fa) #[] ca] 161)).cell? ⟨W.heap.size, 5, none⟩ = some (.int .i64 x) := bX.cell 5
  have x6 : (W.alloc (.cells #[.int .i64 t, .int .i64 N, .int .i64 (pos : Nat), .int .i64 (next : Nat), .int .i64 (owed : Nat), .int .i64 x, .int .i64 y, .func (.func fa) #[] ca] 161)).cell? ⟨W.heap.size, 6, none⟩ = some (.int .i64 y) := bX.cell 6
  have x7 : (W.alloc (.cells #[.int .i64 t, .int .i64 N, .int .i64 (pos : Nat), .int .i64 (next : Nat), .int .i64 (owed : Nat), .int .i64 x, .int .i64 y, .func (.func fa) #[] ca] 161)).cell? ⟨W.heap.size, 7, none⟩ = some (.func (.func fa) #[] ca) := bX.cell 7
  have h1 := h.below hb1
  have hw1 := (Went.refl κ W).below hb1
  have hl := hL.hl
  have ho := hL.on
  have e0 : (y == 0) = false := by simp; exact hy
  have y0 : (W.alloc (.cells #[.int .i64 t, .int .i64 N, .int .i64 (pos : Nat), .int .i64 (next : Nat), .int .i64 (owed : Nat), .int .i64 x, .int .i64 y, .func (.func fa) #[] ca] 161)).cell? ⟨c, 0, none⟩ = some (.func (.func 110) #[] #[.pointer (some ⟨b, 0, none⟩)]) := (hbc.1.below hb1 hbc.1.lt).cell 0
  have HT := Lib.hid (act_reckoned h1 hL t N pos next owed x y fa ca b q F ⟨hbx.1.below hb1 hbx.1.lt, hbx.2⟩ (hF _) hq)
  have HW := Lib.hid hw1
  clear hbc hbx hF hq hy
  clear h h1 hw1 hb1 bX hL ho hl
  go_enter Tryz.func111, Tryz.ntmps111
  go_wp2_with (first | (go_at_call 110; (with_reducible refine HT.out.mono ?_); rintro e w2 hT; obtain ⟨hTT, v, rfl⟩ := hT.ends HW.out; have HTT := Lib.hid hTT; clear hTT hT) | fail)
  go_ret
  exact HTT.out
set_option maxRecDepth 100000 in
set_option maxHeartbeats 2000000 in
theorem act_variable (h : PM K κ evv sv Y s S W) (hL : Live K s S) (t : Int) (m : Nat) (pos next owed : Nat) (x y : Int) (fa : FuncId) (ca : Array Value) (z : Int) (hm : s.vals[m]? = some z) : Calls Tryz.prog 55 #[.pointer (some ⟨K.g, 0, none⟩), .agg #[.int .i64 t, .int .i64 (m : Nat), .int .i64 (pos : Nat), .int .i64 (next : Nat), .int .i64 (owed : Nat), .int .i64 x, .int .i64 y, .func (.func fa) #[] ca]] W (Turn K κ W (tellC z (s, S))) := by
  have hb1 := (Below.refl W.heap.size W).alloc (Nat.le_refl _) (.cells #[.int .i64 t, .int .i64 (m : Nat), .int .i64 (pos : Nat), .int .i64 (next : Nat), .int .i64 (owed : Nat), .int .i64 x, .int .i64 y, .func (.func fa) #[] ca] 161)
  have bX := Blk.new W 161 #[.int .i64 t, .int .i64 (m : Nat), .int .i64 (pos : Nat), .int .i64 (next : Nat), .int .i64 (owed : Nat), .int .i64 x, .int .i64 y, .func (.func fa) #[] ca]
  have x0 : (W.alloc (.cells #[.int .i64 t, .int .i64 (m : Nat), .int .i64 (pos : Nat), .int .i64 (next : Nat), .int .i64 (owed : Nat), .int .i64 x, .int .i64 y, .func (.func fa) #[] ca] 161)).cell? ⟨W.heap.size, 0, none⟩ = some (.int .i64 t) := bX.cell 0
  have x1 : (W.alloc (.cells #[.int .i64 t, .int .i64 (m : Nat), .int .i64 (pos : Nat), .int .i64 (next : Nat), .int .i64 (owed : Nat), .int .i64 x, .int .i64 y, .func (.func fa) #[] ca] 161)).cell? ⟨W.heap.size, 1, none⟩ = some (.int .i64 (m : Nat)) := bX.cell 1
  have x2 : (W.alloc (.cells #[.int .i64 t, .int .i64 (m : Nat), .int .i64 (pos : Nat), .int .i64 (next : Nat), .int .i64 (owed : Nat), .int .i64 x, .int .i64 y, .func (.func fa) #[] ca] 161)).cell? ⟨W.heap.size, 2, none⟩ = some (.int .i64 pos) := bX.cell 2
  have x3 : (W.alloc (.cells #[.int .i64 t, .int .i64 (m : Nat), .int .i64 (pos : Nat), .int .i64 (next : Nat), .int .i64 (owed : Nat), .int .i64 x, .int .i64 y, .func (.func fa) #[] ca] 161)).cell? ⟨W.heap.size, 3, none⟩ = some (.int .i64 next) := bX.cell 3
  have x4 : (W.alloc (.cells #[.int .i64 t, .int .i64 (m : Nat), .int .i64 (pos : Nat), .int .i64 (next : Nat), .int .i64 (owed : Nat), .int .i64 x, .int .i64 y, .func (.func fa) #[] ca] 161)).cell? ⟨W.heap.size, 4, none⟩ = some (.int .i64 owed) := bX.cell 4
  have x5 : (W.alloc (.cells #[.int .i64 t, .int .i64 (m : Nat), .int .i64 (pos : Nat), .int .i64 (next : Nat), .int .i64 (owed : Nat), .int .i64 x, .int .i64 y, .func (.func fa) #[] ca] 161)).cell? ⟨W.heap.size, 5, none⟩ = some (.int .i64 x) := bX.cell 5
  have x6 : (W.alloc (.cells #[.int .i64 t, .int .i64 (m : Nat), .int .i64 (pos : Nat), .int .i64 (next : Nat), .int .i64 (owed : Nat), .int .i64 x, .int .i64 y, .func (.func fa) #[] ca] 161)).cell? ⟨W.heap.size, 6, none⟩ = some (.int .i64 y) := bX.cell 6
  have x7 : (W.alloc (.cells #[.int .i64 t, .int .i64 (m : Nat), .int .i64 (pos : Nat), .int .i64 (next : Nat), .int .i64 (owed : Nat), .int .i64 x, .int .i64 y, .func (.func fa) #[] ca] 161)).cell? ⟨W.heap.size, 7, none⟩ = some (.func (.func fa) #[] ca) := bX.cell 7
  have h1 := h.below hb1
  have hw1 := (Went.refl κ W).below hb1
  have hl := hL.hl
  have ho := hL.on
  obtain ⟨vb, vc, hvv, -, hz, -⟩ := h1.var hm
  have c7 : (W.alloc (.cells #[.int .i64 t, .int .i64 (m : Nat), .int .i64 (pos : Nat), .int .i64 (next : Nat), .int .i64 (owed : Nat), .int .i64 x, .int .i64 y, .func (.func fa) #[] ca] 161)).cell? ⟨K.g, 7, none⟩ = some (.slice (some ⟨vb, 0, none⟩) s.vals.length vc) := (h1.cell 7).trans (congrArg some hvv)
  have i2 : (0 : Int) ≤ (m : Int) := by omega
  have i1 : (m : Int) < (s.vals.length : Int) := by have := (List.getElem?_eq_some_iff.1 hm).1; omega
  have HT := Lib.hid (tell_any h1.drew ho z hl)
  have HW := Lib.hid hw1.drew
  generalize hvn : s.vals.length = vn at c7 i1
  have hC : (fun w' => w'.cell? ⟨K.g, 7, none⟩ = some (.slice (some ⟨vb, 0, none⟩) vn vc) ∧ w'.cell? ⟨W.heap.size, 1, none⟩ = some (.int .i64 (m : Nat)) ∧ w'.cell? ⟨vb, m, none⟩ = some (.int .i64 z)) (W.alloc (.cells #[.int .i64 t, .int .i64 (m : Nat), .int .i64 (pos : Nat), .int .i64 (next : Nat), .int .i64 (owed : Nat), .int .i64 x, .int .i64 y, .func (.func fa) #[] ca] 161)).drew := ⟨c7, x1, hz⟩
  clear hvn hm hvv
  clear h h1 hw1 hb1 bX hL ho hl
  go_enter Tryz.func55, Tryz.ntmps55
  go_wp2_with fail
  refine OrdU.wp_region_U 10 (fun w' => w'.cell? ⟨K.g, 7, none⟩ = some (.slice (some ⟨vb, 0, none⟩) vn vc) ∧ w'.cell? ⟨W.heap.size, 1, none⟩ = some (.int .i64 (m : Nat)) ∧ w'.cell? ⟨vb, m, none⟩ = some (.int .i64 z)) (by kernel_rfl) hC (fun hHeld => ?_)
  refine OrdU.wpAnyU_take (i := 0) (oi := ⟨some 5, _, _, _, _, none⟩) (v := ?_) rfl (by kernel_rfl) (by kernel_rfl) (by kernel_rfl) (by decide) (by kernel_rfl) (fun _ _ _ h => h) (Or.inl ⟨by rfl, ?_⟩) (by assumption) ?_
  rotate_left
  · intro w hSw; (try dsimp only at hSw); go_simp; try with_reducible rfl
  try simp only [Act.put, List.setIfInBounds_toArray, List.set_cons_zero, List.set_cons_succ]
  refine OrdU.wpAnyU_take (i := 1) (oi := ⟨some 6, _, _, _, _, none⟩) (v := ?_) rfl (by kernel_rfl) (by kernel_rfl) (by kernel_rfl) (by decide) (by kernel_rfl) (fun _ _ _ h => h) (Or.inl ⟨by rfl, ?_⟩) (by assumption) ?_
  rotate_left
  · intro w hSw; (try dsimp only at hSw); go_simp; try with_reducible rfl
  try simp only [Act.put, List.setIfInBounds_toArray, List.set_cons_zero, List.set_cons_succ]
  refine OrdU.wpAnyU_take (i := 2) (oi := ⟨some 7, _, _, _, _, none⟩) (v := ?_) rfl (by kernel_rfl) (by kernel_rfl) (by kernel_rfl) (by decide) (by kernel_rfl) (fun _ _ _ h => h) (Or.inl ⟨by rfl, ?_⟩) (by assumption) ?_
  rotate_left
  · intro w hSw; (try dsimp only at hSw); go_simp; try with_reducible rfl
  try simp only [Act.put, List.setIfInBounds_toArray, List.set_cons_zero, List.set_cons_succ]
  refine OrdU.wpAnyU_take (i := 3) (oi := ⟨some 8, _, _, _, _, none⟩) (v := ?_) rfl (by kernel_rfl) (by kernel_rfl) (by kernel_rfl) (by decide) (by kernel_rfl) (fun _ _ _ h => h) (Or.inl ⟨by rfl, ?_⟩) (by assumption) ?_
  rotate_left
  · intro w hSw; (try dsimp only at hSw); go_simp; try with_reducible rfl
  try simp only [Act.put, List.setIfInBounds_toArray, List.set_cons_zero, List.set_cons_succ]
  refine OrdU.wpAnyU_take (i := 4) (oi := ⟨some 9, _, _, _, _, none⟩) (v := ?_) rfl (by kernel_rfl) (by kernel_rfl) (by kernel_rfl) (by decide) (by kernel_rfl) (fun _ _ _ h => h) (Or.inl ⟨by rfl, ?_⟩) (by assumption) ?_
  rotate_left
  · intro w hSw; (try dsimp only at hSw); go_simp; try with_reducible rfl
  try simp only [Act.put, List.setIfInBounds_toArray, List.set_cons_zero, List.set_cons_succ]
  refine OrdU.wpAnyU_take (i := 5) (oi := ⟨some 10, _, _, _, _, none⟩) (v := ?_) rfl (by kernel_rfl) (by kernel_rfl) (by kernel_rfl) (by decide) (by kernel_rfl) (fun _ _ _ h => h) (Or.inl ⟨by rfl, ?_⟩) (by assumption) ?_
  rotate_left
  · intro w hSw; (try dsimp only at hSw); go_simp; try with_reducible rfl
  try simp only [Act.put, List.setIfInBounds_toArray, List.set_cons_zero, List.set_cons_succ]
  refine OrdU.wpAnyU_take (i := 6) (oi := ⟨some 11, _, _, _, _, none⟩) (v := ?_) rfl (by kernel_rfl) (by kernel_rfl) (by kernel_rfl) (by decide) (by kernel_rfl) (fun _ _ _ h => h) (Or.inl ⟨by rfl, ?_⟩) (by assumption) ?_
  rotate_left
  · intro w hSw; (try dsimp only at hSw); go_simp; try with_reducible rfl
  try simp only [Act.put, List.setIfInBounds_toArray, List.set_cons_zero, List.set_cons_succ]
  refine OrdU.wpAnyU_take (i := 7) (oi := ⟨some 12, _, _, _, _, none⟩) (v := ?_) rfl (by kernel_rfl) (by kernel_rfl) (by kernel_rfl) (by decide) (by kernel_rfl) (fun _ _ _ h => h) (Or.inl ⟨by rfl, ?_⟩) (by assumption) ?_
  rotate_left
  · intro w hSw; (try dsimp only at hSw); go_simp; try with_reducible rfl
  try simp only [Act.put, List.setIfInBounds_toArray, List.set_cons_zero, List.set_cons_succ]
  refine OrdU.wpAnyU_take (i := 8) (oi := ⟨some 13, _, _, _, _, none⟩) (v := ?_) rfl (by kernel_rfl) (by kernel_rfl) (by kernel_rfl) (by decide) (by kernel_rfl) (fun _ _ _ h => h) (Or.inl ⟨by rfl, ?_⟩) (by assumption) ?_
  rotate_left
  · intro w hSw; (try dsimp only at hSw); go_simp; try with_reducible rfl
  try simp only [Act.put, List.setIfInBounds_toArray, List.set_cons_zero, List.set_cons_succ]
  refine OrdU.wpAnyU_take (i := 9) (oi := ⟨some 14, _, _, _, _, none⟩) (v := ?_) rfl (by kernel_rfl) (by kernel_rfl) (by kernel_rfl) (by decide) (by kernel_rfl) (fun _ _ _ h => h) (Or.inl ⟨by rfl, ?_⟩) (by assumption) ?_
  rotate_left
  · intro w hSw; (try dsimp only at hSw); go_simp; try with_reducible rfl
  try simp only [Act.put, List.setIfInBounds_toArray, List.set_cons_zero, List.set_cons_succ]
  refine OrdU.wpAnyU_ready (rs := [10]) (by kernel_rfl) (by simp) ?_
  refine OrdU.AllReadyU.cons (o := ⟨some 15, _, _, _, _, none⟩) rfl (fun K' hK => ?_) OrdU.AllReadyU.nil
  go_simp
  go_at_call 108
  with_reducible refine HT.out.mono ?_
  rintro e w2 hT
  obtain ⟨hTT, v, rfl⟩ := hT.ends HW.out
  have HTT := Lib.hid hTT
  clear hTT hT
  go_wp2_with fail
  refine hK.out _ _ (OrdU.no (by kernel_rfl)) (fun _ => ?_)
  clear hK K'
  try simp only [Act.put, List.setIfInBounds_toArray, List.set_cons_zero, List.set_cons_succ]
  refine OrdU.wpAnyU_ready (rs := [11]) (by kernel_rfl) (by simp) ?_
  refine OrdU.AllReadyU.cons (o := ⟨some 4, _, _, _, _, none⟩) rfl (fun K' hK => ?_) OrdU.AllReadyU.nil
  go_simp
  refine hK.out _ _ (OrdU.no (by kernel_rfl)) (fun _ => ?_)
  clear hK K'
  try simp only [Act.put, List.setIfInBounds_toArray, List.set_cons_zero, List.set_cons_succ]
  refine OrdU.wpAnyU_done (by kernel_rfl) ?_ _
  go_wp2_with fail
  go_ret
  exact HTT.out
set_option maxRecDepth 100000 in
set_option maxHeartbeats 2000000 in
theorem act_element_out (h : PM K κ evv sv Y s S W) (hL : Live K s S) (t : Int) (m : Nat) (pos next owed : Nat) (x y : Int) (fa : FuncId) (ca : Array Value) (hm : m < s.arrs.length) (hq : y < 0 ∨ ((arr s m).length : Int) ≤ y) : Calls Tryz.prog 56 #[.pointer (some ⟨K.g, 0, none⟩), .agg #[.int .i64 t, .int .i64 (m : Nat), .int .i64 (pos : Nat), .int .i64 (next : Nat), .int .i64 (owed : Nat), .int .i64 x, .int .i64 y, .func (.func fa) #[] ca]] W (Turn K κ W (s.stop 2 0, S)) := by
  have hb1 := (Below.refl W.heap.size W).alloc (Nat.le_refl _) (.cells #[.int .i64 t, .int .i64 (m : Nat), .int .i64 (pos : Nat), .int .i64 (next : Nat), .int .i64 (owed : Nat), .int .i64 x, .int .i64 y, .func (.func fa) #[] ca] 161)
  have bX := Blk.new W 161 #[.int .i64 t, .int .i64 (m : Nat), .int .i64 (pos : Nat), .int .i64 (next : Nat), .int .i64 (owed : Nat), .int .i64 x, .int .i64 y, .func (.func fa) #[] ca]
  have x0 : (W.alloc (.cells #[.int .i64 t, .int .i64 (m : Nat), .int .i64 (pos : Nat), .int .i64 (next : Nat), .int .i64 (owed : Nat), .int .i64 x, .int .i64 y, .func (.func fa) #[] ca] 161)).cell? ⟨W.heap.size, 0, none⟩ = some (.int .i64 t) := bX.cell 0
  have x1 : (W.alloc (.cells #[.int .i64 t, .int .i64 (m : Nat), .int .i64 (pos : Nat), .int .i64 (next : Nat), .int .i64 (owed : Nat), .int .i64 x, .int .i64 y, .func (.func fa) #[] ca] 161)).cell? ⟨W.heap.size, 1, none⟩ = some (.int .i64 (m : Nat)) := bX.cell 1
  have x2 : (W.alloc (.cells #[.int .i64 t, .int .i64 (m : Nat), .int .i64 (pos : Nat), .int .i64 (next : Nat), .int .i64 (owed : Nat), .int .i64 x, .int .i64 y, .func (.func fa) #[] ca] 161)).cell? ⟨W.heap.size, 2, none⟩ = some (.int .i64 pos) := bX.cell 2
  have x3 : (W.alloc (.cells #[.int .i64 t, .int .i64 (m : Nat), .int .i64 (pos : Nat), .int .i64 (next : Nat), .int .i64 (owed : Nat), .int .i64 x, .int .i64 y, .func (.func fa) #[] ca] 161)).cell? ⟨W.heap.size, 3, none⟩ = some (.int .i64 next) := bX.cell 3
  have x4 : (W.alloc (.cells #[.int .i64 t, .int .i64 (m : Nat), .int .i64 (pos : Nat), .int .i64 (next : Nat), .int .i64 (owed : Nat), .int .i64 x, .int .i64 y, .func (.func fa) #[] ca] 161)).cell? ⟨W.heap.size, 4, none⟩ = some (.int .i64 owed) := bX.cell 4
  have x5 : (W.alloc (.cells #[.int .i64 t, .int .i64 (m : Nat), .int .i64 (pos : Nat), .int .i64 (next : Nat), .int .i64 (owed : Nat), .int .i64 x, .int .i64 y, .func (.func fa) #[] ca] 161)).cell? ⟨W.heap.size, 5, none⟩ = some (.int .i64 x) := bX.cell 5
  have x6 : (W.alloc (.cells #[.int .i64 t, .int .i64 (m : Nat), .int .i64 (pos : Nat), .int .i64 (next : Nat), .int .i64 (owed : Nat), .int .i64 x, .int .i64 y, .func (.func fa) #[] ca] 161)).cell? ⟨W.heap.size, 6, none⟩ = some (.int .i64 y) := bX.cell 6
  have x7 : (W.alloc (.cells #[.int .i64 t, .int .i64 (m : Nat), .int .i64 (pos : Nat), .int .i64 (next : Nat), .int .i64 (owed : Nat), .int .i64 x, .int .i64 y, .func (.func fa) #[] ca] 161)).cell? ⟨W.heap.size, 7, none⟩ = some (.func (.func fa) #[] ca) := bX.cell 7
  have h1 := h.below hb1
  have hw1 := (Went.refl κ W).below hb1
  have hl := hL.hl
  have ho := hL.on
  obtain ⟨ab, ac, yy, hav, hyy, hya, hz⟩ := h1.arr hm
  have c8 : (W.alloc (.cells #[.int .i64 t, .int .i64 (m : Nat), .int .i64 (pos : Nat), .int .i64 (next : Nat), .int .i64 (owed : Nat), .int .i64 x, .int .i64 y, .func (.func fa) #[] ca] 161)).cell? ⟨K.g, 8, none⟩ = some (.slice (some ⟨ab, 0, none⟩) s.arrs.length ac) := (h1.cell 8).trans (congrArg some hav)
  have i2 : (0 : Int) ≤ (m : Int) := by omega
  have i1 : (m : Int) < (s.arrs.length : Int) := by omega
  have HO := Lib.hid (fun A n c i w => outside_any A n c i w)
  have HT := Lib.hid (Turn.stopped h1.drew hw1.drew ho 2)
  rw [← hya] at hq
  have d1 : decide (y < 0 ∨ (yy.2.length : Int) ≤ y) = true := decide_eq_true hq
  generalize yy.2.length = yn at hz d1
  generalize yy.1.1 = yA at hz
  generalize yy.1.2 = yc at hz
  clear hq hya hyy hav hm
  generalize s.arrs.length = an at c8 i1
  clear h h1 hw1 hb1 bX hL ho hl
  go_enter Tryz.func56, Tryz.ntmps56
  go_wp2_with fail
  go_region
  go_wp2_with (first | (go_at_call 109; (with_reducible refine (HO.out _ _ _ _ _).mono ?_); rintro e w1 ⟨rfl, rfl⟩) | fail)
  go_ret
  exact HT.out
set_option maxRecDepth 100000 in
set_option maxHeartbeats 2000000 in
theorem act_element (h : PM K κ evv sv Y s S W) (hL : Live K s S) (t : Int) (m : Nat) (pos next owed : Nat) (x : Int) (j : Nat) (fa : FuncId) (ca : Array Value) (z : Int) (hm : m < s.arrs.length) (hj : (arr s m)[j]? = some z) : Calls Tryz.prog 56 #[.pointer (some ⟨K.g, 0, none⟩), .agg #[.int .i64 t, .int .i64 (m : Nat), .int .i64 (pos : Nat), .int .i64 (next : Nat), .int .i64 (owed : Nat), .int .i64 x, .int .i64 (j : Nat), .func (.func fa) #[] ca]] W (Turn K κ W (tellC z (s, S))) := by
  have hb1 := (Below.refl W.heap.size W).alloc (Nat.le_refl _) (.cells #[.int .i64 t, .int .i64 (m : Nat), .int .i64 (pos : Nat), .int .i64 (next : Nat), .int .i64 (owed : Nat), .int .i64 x, .int .i64 (j : Nat), .func (.func fa) #[] ca] 161)
  have bX := Blk.new W 161 #[.int .i64 t, .int .i64 (m : Nat), .int .i64 (pos : Nat), .int .i64 (next : Nat), .int .i64 (owed : Nat), .int .i64 x, .int .i64 (j : Nat), .func (.func fa) #[] ca]
  have x0 : (W.alloc (.cells #[.int .i64 t, .int .i64 (m : Nat), .int .i64 (pos : Nat), .int .i64 (next : Nat), .int .i64 (owed : Nat), .int .i64 x, .int .i64 (j : Nat), .func (.func fa) #[] ca] 161)).cell? ⟨W.heap.size, 0, none⟩ = some (.int .i64 t) := bX.cell 0
  have x1 : (W.alloc (.cells #[.int .i64 t, .int .i64 (m : Nat), .int .i64 (pos : Nat), .int .i64 (next : Nat), .int .i64 (owed : Nat), .int .i64 x, .int .i64 (j : Nat), .func (.func fa) #[] ca] 161)).cell? ⟨W.heap.size, 1, none⟩ = some (.int .i64 (m : Nat)) := bX.cell 1
  have x2 : (W.alloc (.cells #[.int .i64 t, .int .i64 (m : Nat), .int .i64 (pos : Nat), .int .i64 (next : Nat), .int .i64 (owed : Nat), .int .i64 x, .int .i64 (j : Nat), .func (.func fa) #[] ca] 161)).cell? ⟨W.heap.size, 2, none⟩ = some (.int .i64 pos) := bX.cell 2
  have x3 : (W.alloc (.cells #[.int .i64 t, .int .i64 (m : Nat), .int .i64 (pos : Nat), .int .i64 (next : Nat), .int .i64 (owed : Nat), .int .i64 x, .int .i64 (j : Nat), .func (.func fa) #[] ca] 161)).cell? ⟨W.heap.size, 3, none⟩ = some (.int .i64 next) := bX.cell 3
  have x4 : (W.alloc (.cells #[.int .i64 t, .int .i64 (m : Nat), .int .i64 (pos : Nat), .int .i64 (next : Nat), .int .i64 (owed : Nat), .int .i64 x, .int .i64 (j : Nat), .func (.func fa) #[] ca] 161)).cell? ⟨W.heap.size, 4, none⟩ = some (.int .i64 owed) := bX.cell 4
  have x5 : (W.alloc (.cells #[.int .i64 t, .int .i64 (m : Nat), .int .i64 (pos : Nat), .int .i64 (next : Nat), .int .i64 (owed : Nat), .int .i64 x, .int .i64 (j : Nat), .func (.func fa) #[] ca] 161)).cell? ⟨W.heap.size, 5, none⟩ = some (.int .i64 x) := bX.cell 5
  have x6 : (W.alloc (.cells #[.int .i64 t, .int .i64 (m : Nat), .int .i64 (pos : Nat), .int .i64 (next : Nat), .int .i64 (owed : Nat), .int .i64 x, .int .i64 (j : Nat), .func (.func fa) #[] ca] 161)).cell? ⟨W.heap.size, 6, none⟩ = some (.int .i64 (j : Nat)) := bX.cell 6
  have x7 : (W.alloc (.cells #[.int .i64 t, .int .i64 (m : Nat), .int .i64 (pos : Nat), .int .i64 (next : Nat), .int .i64 (owed : Nat), .int .i64 x, .int .i64 (j : Nat), .func (.func fa) #[] ca] 161)).cell? ⟨W.heap.size, 7, none⟩ = some (.func (.func fa) #[] ca) := bX.cell 7
  have h1 := h.below hb1
  have hw1 := (Went.refl κ W).below hb1
  have hl := hL.hl
  have ho := hL.on
  obtain ⟨ab, ac, yy, hav, hyy, hya, hz⟩ := h1.arr hm
  have c8 : (W.alloc (.cells #[.int .i64 t, .int .i64 (m : Nat), .int .i64 (pos : Nat), .int .i64 (next : Nat), .int .i64 (owed : Nat), .int .i64 x, .int .i64 (j : Nat), .func (.func fa) #[] ca] 161)).cell? ⟨K.g, 8, none⟩ = some (.slice (some ⟨ab, 0, none⟩) s.arrs.length ac) := (h1.cell 8).trans (congrArg some hav)
  have i2 : (0 : Int) ≤ (m : Int) := by omega
  have i1 : (m : Int) < (s.arrs.length : Int) := by omega
  have HO := Lib.hid (fun A n c i w => outside_any A n c i w)
  obtain ⟨yb, hyA, hyb, he, hfz⟩ := h1.elem hyy (j := j) (z := z) (by rw [hya]; exact hj)
  rw [hyA] at hz
  have hjl : j < yy.2.length := by rw [hya]; exact (List.getElem?_eq_some_iff.1 hj).1
  have i4 : (0 : Int) ≤ (j : Int) := by omega
  have i3 : (j : Int) < (yy.2.length : Int) := by omega
  have d1 : decide ((j : Int) < 0 ∨ (yy.2.length : Int) ≤ (j : Int)) = false := decide_eq_false (by omega)
  have HT := Lib.hid (tell_any h1.drew ho z hl)
  have HW := Lib.hid hw1.drew
  clear hjl hyb hyA hya hyy hav hm hj hfz
  generalize yy.2.length = yn at hz d1 i3
  generalize yy.1.2 = yc at hz
  generalize s.arrs.length = an at c8 i1
  clear h h1 hw1 hb1 bX hL ho hl
  go_enter Tryz.func56, Tryz.ntmps56
  go_wp2_with fail
  go_region
  go_wp2_with (first | (go_at_call 109; (with_reducible refine (HO.out _ _ _ _ _).mono ?_); rintro e w1 ⟨rfl, rfl⟩) | (go_at_call 108; (with_reducible refine HT.out.mono ?_); rintro e w2 hT; obtain ⟨hTT, v, rfl⟩ := hT.ends HW.out; have HTT := Lib.hid hTT; clear hTT hT) | fail)
  go_ret
  exact HTT.out
set_option maxRecDepth 100000 in
set_option maxHeartbeats 2000000 in
theorem act_set (h : PM K κ evv sv Y s S W) (hL : Live K s S) (t : Int) (m : Nat) (pos next owed : Nat) (x y : Int) (fa : FuncId) (ca : Array Value) (hm : m < s.vals.length) : Calls Tryz.prog 75 #[.pointer (some ⟨K.g, 0, none⟩), .agg #[.int .i64 t, .int .i64 (m : Nat), .int .i64 (pos : Nat), .int .i64 (next : Nat), .int .i64 (owed : Nat), .int .i64 x, .int .i64 y, .func (.func fa) #[] ca]] W (Turn K κ W (tellC 0 ({ s with vals := s.vals.set m y, ev := s.ev ++ [((m : Int), -1, y)] }, S))) := by
  have hb1 := (Below.refl W.heap.size W).alloc (Nat.le_refl _) (.cells #[.int .i64 t, .int .i64 (m : Nat), .int .i64 (pos : Nat), .int .i64 (next : Nat), .int .i64 (owed : Nat), .int .i64 x, .int .i64 y, .func (.func fa) #[] ca] 161)
  have bX := Blk.new W 161 #[.int .i64 t, .int .i64 (m : Nat), .int .i64 (pos : Nat), .int .i64 (next : Nat), .int .i64 (owed : Nat), .int .i64 x, .int .i64 y, .func (.func fa) #[] ca]
  have x0 : (W.alloc (.cells #[.int .i64 t, .int .i64 (m : Nat), .int .i64 (pos : Nat), .int .i64 (next : Nat), .int .i64 (owed : Nat), .int .i64 x, .int .i64 y, .func (.func fa) #[] ca] 161)).cell? ⟨W.heap.size, 0, none⟩ = some (.int .i64 t) := bX.cell 0
  have x1 : (W.alloc (.cells #[.int .i64 t, .int .i64 (m : Nat), .int .i64 (pos : Nat), .int .i64 (next : Nat), .int .i64 (owed : Nat), .int .i64 x, .int .i64 y, .func (.func fa) #[] ca] 161)).cell? ⟨W.heap.size, 1, none⟩ = some (.int .i64 (m : Nat)) := bX.cell 1
  have x2 : (W.alloc (.cells #[.int .i64 t, .int .i64 (m : Nat), .int .i64 (pos : Nat), .int .i64 (next : Nat), .int .i64 (owed : Nat), .int .i64 x, .int .i64 y, .func (.func fa) #[] ca] 161)).cell? ⟨W.heap.size, 2, none⟩ = some (.int .i64 pos) := bX.cell 2
  have x3 : (W.alloc (.cells #[.int .i64 t, .int .i64 (m : Nat), .int .i64 (pos : Nat), .int .i64 (next : Nat), .int .i64 (owed : Nat), .int .i64 x, .int .i64 y, .func (.func fa) #[] ca] 161)).cell? ⟨W.heap.size, 3, none⟩ = some (.int .i64 next) := bX.cell 3
  have x4 : (W.alloc (.cells #[.int .i64 t, .int .i64 (m : Nat), .int .i64 (pos : Nat), .int .i64 (next : Nat), .int .i64 (owed : Nat), .int .i64 x, .int .i64 y, .func (.func fa) #[] ca] 161)).cell? ⟨W.heap.size, 4, none⟩ = some (.int .i64 owed) := bX.cell 4
  have x5 : (W.alloc (.cells #[.int .i64 t, .int .i64 (m : Nat), .int .i64 (pos : Nat), .int .i64 (next : Nat), .int .i64 (owed : Nat), .int .i64 x, .int .i64 y, .func (.func fa) #[] ca] 161)).cell? ⟨W.heap.size, 5, none⟩ = some (.int .i64 x) := bX.cell 5
  have x6 : (W.alloc (.cells #[.int .i64 t, .int .i64 (m : Nat), .int .i64 (pos : Nat), .int .i64 (next : Nat), .int .i64 (owed : Nat), .int .i64 x, .int .i64 y, .func (.func fa) #[] ca] 161)).cell? ⟨W.heap.size, 6, none⟩ = some (.int .i64 y) := bX.cell 6
  have x7 : (W.alloc (.cells #[.int .i64 t, .int .i64 (m : Nat), .int .i64 (pos : Nat), .int .i64 (next : Nat), .int .i64 (owed : Nat), .int .i64 x, .int .i64 y, .func (.func fa) #[] ca] 161)).cell? ⟨W.heap.size, 7, none⟩ = some (.func (.func fa) #[] ca) := bX.cell 7
  have h1 := h.below hb1
  have hw1 := (Went.refl κ W).below hb1
  have hl := hL.hl
  have ho := hL.on
  obtain ⟨z, hz0⟩ : ∃ z, s.vals[m]? = some z := ⟨_, List.getElem?_eq_getElem hm⟩
  obtain ⟨vb, vc, hvv, hvb, hz, hfz⟩ := h1.var hz0
  have c7 : (W.alloc (.cells #[.int .i64 t, .int .i64 (m : Nat), .int .i64 (pos : Nat), .int .i64 (next : Nat), .int .i64 (owed : Nat), .int .i64 x, .int .i64 y, .func (.func fa) #[] ca] 161)).cell? ⟨K.g, 7, none⟩ = some (.slice (some ⟨vb, 0, none⟩) s.vals.length vc) := (h1.cell 7).trans (congrArg some hvv)
  have i2 : (0 : Int) ≤ (m : Int) := by omega
  have i1 : (m : Int) < (s.vals.length : Int) := by omega
  have hbA := (Below.refl (W.setCell ⟨vb, m, none⟩ (.int .i64 y)).heap.size (W.setCell ⟨vb, m, none⟩ (.int .i64 y))).alloc (Nat.le_refl _) (.cells #[.int .i64 t, .int .i64 (m : Nat), .int .i64 (pos : Nat), .int .i64 (next : Nat), .int .i64 (owed : Nat), .int .i64 x, .int .i64 y, .func (.func fa) #[] ca] 161)
  have h2 := ((h.set_v hvb hm y).below hbA).drew
  have hw2 := (((Went.refl κ W).setCell (a := ⟨vb, m, none⟩) (.inl (by show κ vb ≠ 0; rw [h1.lab.v vb hvb]; decide)) (.int .i64 y)).below hbA).drew
  have HT := Lib.hid (store_any h2 ho hl hL.he m (-1) y)
  have HW := Lib.hid hw2
  have f1 := hfz m
  have hvlt := (h.lab.lt vb (by rw [h.lab.v vb hvb]; decide)).2
  have hlt := (h1.lab.lt vb (by rw [h1.lab.v vb hvb]; decide)).2
  have hlg := h1.glt.2
  generalize hvn : s.vals.length = vn at c7 i1
  clear hvn hm hvv hvb hfz h2 hw2 hz0 hbA
  clear h h1 hw1 hb1 bX hL ho hl
  go_enter Tryz.func75, Tryz.ntmps75
  go_wp2_with fail
  go_region
  go_wp2_with (first | (go_at_call 114; (with_reducible refine HT.out.mono ?_); rintro e w2 hT; obtain ⟨hTT, v, rfl⟩ := hT.ends HW.out; have HTT := Lib.hid hTT; clear hTT hT) | fail)
  go_ret
  exact HTT.out
set_option maxRecDepth 100000 in
set_option maxHeartbeats 2000000 in
theorem act_put_out (h : PM K κ evv sv Y s S W) (hL : Live K s S) (t : Int) (m : Nat) (pos next owed : Nat) (x y : Int) (fa : FuncId) (ca : Array Value) (hm : m < s.arrs.length) (hq : x < 0 ∨ ((arr s m).length : Int) ≤ x) : Calls Tryz.prog 76 #[.pointer (some ⟨K.g, 0, none⟩), .agg #[.int .i64 t, .int .i64 (m : Nat), .int .i64 (pos : Nat), .int .i64 (next : Nat), .int .i64 (owed : Nat), .int .i64 x, .int .i64 y, .func (.func fa) #[] ca]] W (Turn K κ W (s.stop 2 0, S)) := by
  have hb1 := (Below.refl W.heap.size W).alloc (Nat.le_refl _) (.cells #[.int .i64 t, .int .i64 (m : Nat), .int .i64 (pos : Nat), .int .i64 (next : Nat), .int .i64 (owed : Nat), .int .i64 x, .int .i64 y, .func (.func fa) #[] ca] 161)
  have bX := Blk.new W 161 #[.int .i64 t, .int .i64 (m : Nat), .int .i64 (pos : Nat), .int .i64 (next : Nat), .int .i64 (owed : Nat), .int .i64 x, .int .i64 y, .func (.func fa) #[] ca]
  have x0 : (W.alloc (.cells #[.int .i64 t, .int .i64 (m : Nat), .int .i64 (pos : Nat), .int .i64 (next : Nat), .int .i64 (owed : Nat), .int .i64 x, .int .i64 y, .func (.func fa) #[] ca] 161)).cell? ⟨W.heap.size, 0, none⟩ = some (.int .i64 t) := bX.cell 0
  have x1 : (W.alloc (.cells #[.int .i64 t, .int .i64 (m : Nat), .int .i64 (pos : Nat), .int .i64 (next : Nat), .int .i64 (owed : Nat), .int .i64 x, .int .i64 y, .func (.func fa) #[] ca] 161)).cell? ⟨W.heap.size, 1, none⟩ = some (.int .i64 (m : Nat)) := bX.cell 1
  have x2 : (W.alloc (.cells #[.int .i64 t, .int .i64 (m : Nat), .int .i64 (pos : Nat), .int .i64 (next : Nat), .int .i64 (owed : Nat), .int .i64 x, .int .i64 y, .func (.func fa) #[] ca] 161)).cell? ⟨W.heap.size, 2, none⟩ = some (.int .i64 pos) := bX.cell 2
  have x3 : (W.alloc (.cells #[.int .i64 t, .int .i64 (m : Nat), .int .i64 (pos : Nat), .int .i64 (next : Nat), .int .i64 (owed : Nat), .int .i64 x, .int .i64 y, .func (.func fa) #[] ca] 161)).cell? ⟨W.heap.size, 3, none⟩ = some (.int .i64 next) := bX.cell 3
  have x4 : (W.alloc (.cells #[.int .i64 t, .int .i64 (m : Nat), .int .i64 (pos : Nat), .int .i64 (next : Nat), .int .i64 (owed : Nat), .int .i64 x, .int .i64 y, .func (.func fa) #[] ca] 161)).cell? ⟨W.heap.size, 4, none⟩ = some (.int .i64 owed) := bX.cell 4
  have x5 : (W.alloc (.cells #[.int .i64 t, .int .i64 (m : Nat), .int .i64 (pos : Nat), .int .i64 (next : Nat), .int .i64 (owed : Nat), .int .i64 x, .int .i64 y, .func (.func fa) #[] ca] 161)).cell? ⟨W.heap.size, 5, none⟩ = some (.int .i64 x) := bX.cell 5
  have x6 : (W.alloc (.cells #[.int .i64 t, .int .i64 (m : Nat), .int .i64 (pos : Nat), .int .i64 (next : Nat), .int .i64 (owed : Nat), .int .i64 x, .int .i64 y, .func (.func fa) #[] ca] 161)).cell? ⟨W.heap.size, 6, none⟩ = some (.int .i64 y) := bX.cell 6
  have x7 : (W.alloc (.cells #[.int .i64 t, .int .i64 (m : Nat), .int .i64 (pos : Nat), .int .i64 (next : Nat), .int .i64 (owed : Nat), .int .i64 x, .int .i64 y, .func (.func fa) #[] ca] 161)).cell? ⟨W.heap.size, 7, none⟩ = some (.func (.func fa) #[] ca) := bX.cell 7
  have h1 := h.below hb1
  have hw1 := (Went.refl κ W).below hb1
  have hl := hL.hl
  have ho := hL.on
  obtain ⟨ab, ac, yy, hav, hyy, hya, hz⟩ := h1.arr hm
  have c8 : (W.alloc (.cells #[.int .i64 t, .int .i64 (m : Nat), .int .i64 (pos : Nat), .int .i64 (next : Nat), .int .i64 (owed : Nat), .int .i64 x, .int .i64 y, .func (.func fa) #[] ca] 161)).cell? ⟨K.g, 8, none⟩ = some (.slice (some ⟨ab, 0, none⟩) s.arrs.length ac) := (h1.cell 8).trans (congrArg some hav)
  have i2 : (0 : Int) ≤ (m : Int) := by omega
  have i1 : (m : Int) < (s.arrs.length : Int) := by omega
  have HO := Lib.hid (fun A n c i w => outside_any A n c i w)
  have HT := Lib.hid (Turn.stopped h1.drew hw1.drew ho 2)
  rw [← hya] at hq
  have d1 : decide (x < 0 ∨ (yy.2.length : Int) ≤ x) = true := decide_eq_true hq
  generalize yy.2.length = yn at hz d1
  generalize yy.1.1 = yA at hz
  generalize yy.1.2 = yc at hz
  clear hq hya hyy hav hm
  generalize s.arrs.length = an at c8 i1
  clear h h1 hw1 hb1 bX hL ho hl
  go_enter Tryz.func76, Tryz.ntmps76
  go_wp2_with fail
  go_region
  go_wp2_with (first | (go_at_call 109; (with_reducible refine (HO.out _ _ _ _ _).mono ?_); rintro e w1 ⟨rfl, rfl⟩) | fail)
  go_ret
  exact HT.out
set_option maxRecDepth 100000 in
set_option maxHeartbeats 2000000 in
theorem act_put (h : PM K κ evv sv Y s S W) (hL : Live K s S) (t : Int) (m : Nat) (pos next owed : Nat) (j : Nat) (y : Int) (fa : FuncId) (ca : Array Value) (hm : m < s.arrs.length) (hj : j < (arr s m).length) : Calls Tryz.prog 76 #[.pointer (some ⟨K.g, 0, none⟩), .agg #[.int .i64 t, .int .i64 (m : Nat), .int .i64 (pos : Nat), .int .i64 (next : Nat), .int .i64 (owed : Nat), .int .i64 (j : Nat), .int .i64 y, .func (.func fa) #[] ca]] W (Turn K κ W (tellC 0 ({ s with arrs := s.arrs.set m ((arr s m).set j y), ev := s.ev ++ [((m : Int), (j : Int), y)] }, S))) := by
  have hb1 := (Below.refl W.heap.size W).alloc (Nat.le_refl _) (.cells #[.int .i64 t, .int .i64 (m : Nat), .int .i64 (pos : Nat), .int .i64 (next : Nat), .int .i64 (owed : Nat), .int .i64 (j : Nat), .int .i64 y, .func (.func fa) #[] ca] 161)
  have bX := Blk.new W 161 #[.int .i64 t, .int .i64 (m : Nat), .int .i64 (pos : Nat), .int .i64 (next : Nat), .int .i64 (owed : Nat), .int .i64 (j : Nat), .int .i64 y, .func (.func fa) #[] ca]
  have x0 : (W.alloc (.cells #[.int .i64 t, .int .i64 (m : Nat), .int .i64 (pos : Nat), .int .i64 (next : Nat), .int .i64 (owed : Nat), .int .i64 (j : Nat), .int .i64 y, .func (.func fa) #[] ca] 161)).cell? ⟨W.heap.size, 0, none⟩ = some (.int .i64 t) := bX.cell 0
  have x1 : (W.alloc (.cells #[.int .i64 t, .int .i64 (m : Nat), .int .i64 (pos : Nat), .int .i64 (next : Nat), .int .i64 (owed : Nat), .int .i64 (j : Nat), .int .i64 y, .func (.func fa) #[] ca] 161)).cell? ⟨W.heap.size, 1, none⟩ = some (.int .i64 (m : Nat)) := bX.cell 1
  have x2 : (W.alloc (.cells #[.int .i64 t, .int .i64 (m : Nat), .int .i64 (pos : Nat), .int .i64 (next : Nat), .int .i64 (owed : Nat), .int .i64 (j : Nat), .int .i64 y, .func (.func fa) #[] ca] 161)).cell? ⟨W.heap.size, 2, none⟩ = some (.int .i64 pos) := bX.cell 2
  have x3 : (W.alloc (.cells #[.int .i64 t, .int .i64 (m : Nat), .int .i64 (pos : Nat), .int .i64 (next : Nat), .int .i64 (owed : Nat), .int .i64 (j : Nat), .int .i64 y, .func (.func fa) #[] ca] 161)).cell? ⟨W.heap.size, 3, none⟩ = some (.int .i64 next) := bX.cell 3
  have x4 : (W.alloc (.cells #[.int .i64 t, .int .i64 (m : Nat), .int .i64 (pos : Nat), .int .i64 (next : Nat), .int .i64 (owed : Nat), .int .i64 (j : Nat), .int .i64 y, .func (.func fa) #[] ca] 161)).cell? ⟨W.heap.size, 4, none⟩ = some (.int .i64 owed) := bX.cell 4
  have x5 : (W.alloc (.cells #[.int .i64 t, .int .i64 (m : Nat), .int .i64 (pos : Nat), .int .i64 (next : Nat), .int .i64 (owed : Nat), .int .i64 (j : Nat), .int .i64 y, .func (.func fa) #[] ca] 161)).cell? ⟨W.heap.size, 5, none⟩ = some (.int .i64 (j : Nat)) := bX.cell 5
  have x6 : (W.alloc (.cells #[.int .i64 t, .int .i64 (m : Nat), .int .i64 (pos : Nat), .int .i64 (next : Nat), .int .i64 (owed : Nat), .int .i64 (j : Nat), .int .i64 y, .func (.func fa) #[] ca] 161)).cell? ⟨W.heap.size, 6, none⟩ = some (.int .i64 y) := bX.cell 6
  have x7 : (W.alloc (.cells #[.int .i64 t, .int .i64 (m : Nat), .int .i64 (pos : Nat), .int .i64 (next : Nat), .int .i64 (owed : Nat), .int .i64 (j : Nat), .int .i64 y, .func (.func fa) #[] ca] 161)).cell? ⟨W.heap.size, 7, none⟩ = some (.func (.func fa) #[] ca) := bX.cell 7
  have h1 := h.below hb1
  have hw1 := (Went.refl κ W).below hb1
  have hl := hL.hl
  have ho := hL.on
  obtain ⟨ab, ac, yy, hav, hyy, hya, hz⟩ := h1.arr hm
  have c8 : (W.alloc (.cells #[.int .i64 t, .int .i64 (m : Nat), .int .i64 (pos : Nat), .int .i64 (next : Nat), .int .i64 (owed : Nat), .int .i64 (j : Nat), .int .i64 y, .func (.func fa) #[] ca] 161)).cell? ⟨K.g, 8, none⟩ = some (.slice (some ⟨ab, 0, none⟩) s.arrs.length ac) := (h1.cell 8).trans (congrArg some hav)
  have i2 : (0 : Int) ≤ (m : Int) := by omega
  have i1 : (m : Int) < (s.arrs.length : Int) := by omega
  have HO := Lib.hid (fun A n c i w => outside_any A n c i w)
  have hj0 := hj
  obtain ⟨z, hz9⟩ : ∃ z, yy.2[j]? = some z := ⟨_, List.getElem?_eq_getElem (by rw [hya]; exact hj)⟩
  obtain ⟨yb, hyA, hyb, he, hfz⟩ := h1.elem hyy hz9
  rw [hyA] at hz
  have hjl : j < yy.2.length := by rw [hya]; exact hj
  have i4 : (0 : Int) ≤ (j : Int) := by omega
  have i3 : (j : Int) < (yy.2.length : Int) := by omega
  have d1 : decide ((j : Int) < 0 ∨ (yy.2.length : Int) ≤ (j : Int)) = false := decide_eq_false (by omega)
  have hbA := (Below.refl (W.setCell ⟨yb, j, none⟩ (.int .i64 y)).heap.size (W.setCell ⟨yb, j, none⟩ (.int .i64 y))).alloc (Nat.le_refl _) (.cells #[.int .i64 t, .int .i64 (m : Nat), .int .i64 (pos : Nat), .int .i64 (next : Nat), .int .i64 (owed : Nat), .int .i64 (j : Nat), .int .i64 y, .func (.func fa) #[] ca] 161)
  have h2 := ((h.set_a hyy hyb hjl y).below hbA).drew
  have hw2 := (((Went.refl κ W).setCell (a := ⟨yb, j, none⟩) (.inl (by show κ yb ≠ 0; rw [h1.lab.y m yy yb hyy hyb]; omega)) (.int .i64 y)).below hbA).drew
  rw [hya] at h2
  have HT := Lib.hid (store_any h2 ho hl hL.he m j y)
  have HW := Lib.hid hw2
  have f1 := hfz j
  have hvlt := (h.lab.lt yb (by rw [h.lab.y m yy yb hyy hyb]; omega)).2
  have hlt := (h1.lab.lt yb (by rw [h1.lab.y m yy yb hyy hyb]; omega)).2
  have hlg := h1.glt.2
  clear hjl hyb hyA hya hyy hav hm hj hfz hj0 hz9 h2 hw2 hbA
  generalize yy.2.length = yn at hz d1 i3
  generalize yy.1.2 = yc at hz
  generalize s.arrs.length = an at c8 i1
  clear h h1 hw1 hb1 bX hL ho hl
  go_enter Tryz.func76, Tryz.ntmps76
  go_wp2_with fail
  go_region
  go_wp2_with (first | (go_at_call 109; (with_reducible refine (HO.out _ _ _ _ _).mono ?_); rintro e w1 ⟨rfl, rfl⟩) | (go_at_call 114; (with_reducible refine HT.out.mono ?_); rintro e w2 hT; obtain ⟨hTT, v, rfl⟩ := hT.ends HW.out; have HTT := Lib.hid hTT; clear hTT hT) | fail)
  go_ret
  exact HTT.out
set_option maxRecDepth 100000 in
set_option maxHeartbeats 2000000 in
theorem act_branch (h : PM K κ evv sv Y s S W) (hL : Live K s S) (t N : Int) (pos next owed : Nat) (x y : Int) (fa : FuncId) (ca : Array Value) (hk : IsNode K.p.xs next) (hk2 : IsNode K.p.xs (behind K.p.xs next)) : Calls Tryz.prog 77 #[.pointer (some ⟨K.g, 0, none⟩), .agg #[.int .i64 t, .int .i64 N, .int .i64 (pos : Nat), .int .i64 (next : Nat), .int .i64 (owed : Nat), .int .i64 x, .int .i64 y, .func (.func fa) #[] ca]] W (Turn K κ W (if y = 1 then enterC K.p.xs next (s, S) else enterC K.p.xs (behind K.p.xs next) (s, S))) := by
  have hb1 := (Below.refl W.heap.size W).alloc (Nat.le_refl _) (.cells #[.int .i64 t, .int .i64 N, .int .i64 (pos : Nat), .int .i64 (next : Nat), .int .i64 (owed : Nat), .int .i64 x, .int .i64 y, .func (.func fa) #[] ca] 161)
  have bX := Blk.new W 161 #[.int .i64 t, .int .i64 N, .int .i64 (pos : Nat), .int .i64 (next : Nat), .int .i64 (owed : Nat), .int .i64 x, .int .i64 y, .func (.func fa) #[] ca]
  have x0 : (W.alloc (.cells #[.int .i64 t, .int .i64 N, .int .i64 (pos : Nat), .int .i64 (next : Nat), .int .i64 (owed : Nat), .int .i64 x, .int .i64 y, .func (.func fa) #[] ca] 161)).cell? ⟨W.heap.size, 0, none⟩ = some (.int .i64 t) := bX.cell 0
  have x1 : (W.alloc (.cells #[.int .i64 t, .int .i64 N, .int .i64 (pos : Nat), .int .i64 (next : Nat), .int .i64 (owed : Nat), .int .i64 x, .int .i64 y, .func (.func fa) #[] ca] 161)).cell? ⟨W.heap.size, 1, none⟩ = some (.int .i64 N) := bX.cell 1
  have x2 : (W.alloc (.cells #[.int .i64 t, .int .i64 N, .int .i64 (pos : Nat), .int .i64 (next : Nat), .int .i64 (owed : Nat), .int .i64 x, .int .i64 y, .func (.func fa) #[] ca] 161)).cell? ⟨W.heap.size, 2, none⟩ = some (.int .i64 pos) := bX.cell 2
  have x3 : (W.alloc (.cells #[.int .i64 t, .int .i64 N, .int .i64 (pos : Nat), .int .i64 (next : Nat), .int .i64 (owed : Nat), .int .i64 x, .int .i64 y, .func (.func fa) #[] ca] 161)).cell? ⟨W.heap.size, 3, none⟩ = some (.int .i64 next) := bX.cell 3
  have x4 : (W.alloc (.cells #[.int .i64 t, .int .i64 N, .int .i64 (pos : Nat), .int .i64 (next : Nat), .int .i64 (owed : Nat), .int .i64 x, .int .i64 y, .func (.func fa) #[] ca] 161)).cell? ⟨W.heap.size, 4, none⟩ = some (.int .i64 owed) := bX.cell 4
  have x5 : (W.alloc (.cells #[.int .i64 t, .int .i64 N, .int .i64 (pos : Nat), .int .i64 (next : Nat), .int .i64 (owed : Nat), .int .i64 x, .int .i64 y, .func (.func fa) #[] ca] 161)).cell? ⟨W.heap.size, 5, none⟩ = some (.int .i64 x) := bX.cell 5
  have x6 : (W.alloc (.cells #[.int .i64 t, .int .i64 N, .int .i64 (pos : Nat), .int .i64 (next : Nat), .int .i64 (owed : Nat), .int .i64 x, .int .i64 y, .func (.func fa) #[] ca] 161)).cell? ⟨W.heap.size, 6, none⟩ = some (.int .i64 y) := bX.cell 6
  have x7 : (W.alloc (.cells #[.int .i64 t, .int .i64 N, .int .i64 (pos : Nat), .int .i64 (next : Nat), .int .i64 (owed : Nat), .int .i64 x, .int .i64 y, .func (.func fa) #[] ca] 161)).cell? ⟨W.heap.size, 7, none⟩ = some (.func (.func fa) #[] ca) := bX.cell 7
  have h1 := h.below hb1
  have hw1 := (Went.refl κ W).below hb1
  have hl := hL.hl
  have ho := hL.on
  have c5 : (W.alloc (.cells #[.int .i64 t, .int .i64 N, .int .i64 (pos : Nat), .int .i64 (next : Nat), .int .i64 (owed : Nat), .int .i64 x, .int .i64 y, .func (.func fa) #[] ca] 161)).cell? ⟨K.g, 5, none⟩ = some (.slice (some ⟨K.eb, 0, none⟩) K.p.xs.length K.ec) := h1.cell 5
  have ce := h1.cn.ends next hk
  have HT := Lib.hid (enter_any16 h1 hL hk)
  have HU := Lib.hid (enter_any16 h1.drew hL hk2)
  have HW := Lib.hid hw1
  have HW2 := Lib.hid hw1.drew
  have hkl := hk.get
  have i1 : (next : Int) < (K.p.xs.length : Int) := by obtain ⟨_, _, _, _, _, q, _⟩ := hkl; omega
  have i2 : (0 : Int) ≤ (next : Int) := by omega
  have hC : (fun w' => w'.cell? ⟨K.g, 5, none⟩ = some (.slice (some ⟨K.eb, 0, none⟩) K.p.xs.length K.ec) ∧ w'.cell? ⟨W.heap.size, 3, none⟩ = some (.int .i64 (next : Nat)) ∧ w'.cell? ⟨K.eb, next, none⟩ = some (.int .i64 (behind K.p.xs next : Nat))) (W.alloc (.cells #[.int .i64 t, .int .i64 N, .int .i64 (pos : Nat), .int .i64 (next : Nat), .int .i64 (owed : Nat), .int .i64 x, .int .i64 y, .func (.func fa) #[] ca] 161)).drew := ⟨c5, x3, ce⟩
  clear hk hk2 hkl
  clear h h1 hw1 hb1 bX hL ho hl
  go_enter Tryz.func77, Tryz.ntmps77
  by_cases hz : y = 1
  · rw [if_pos hz]
    subst hz
    go_wp2_with (first | (go_at_call 34; (with_reducible refine HT.out.mono ?_); rintro e w2 hT; obtain ⟨hTT, v, rfl⟩ := hT.ends HW.out; have HTT := Lib.hid hTT; clear hTT hT) | fail)
    go_ret
    exact HTT.out
  · rw [if_neg hz]
    have hz2 : (y == 1) = false := by simp; exact hz
    clear hz
    go_wp2_with fail
    refine OrdU.wp_region_U 9 (fun w' => w'.cell? ⟨K.g, 5, none⟩ = some (.slice (some ⟨K.eb, 0, none⟩) K.p.xs.length K.ec) ∧ w'.cell? ⟨W.heap.size, 3, none⟩ = some (.int .i64 (next : Nat)) ∧ w'.cell? ⟨K.eb, next, none⟩ = some (.int .i64 (behind K.p.xs next : Nat))) (by kernel_rfl) hC (fun hHeld => ?_)
    refine OrdU.wpAnyU_take (i := 0) (oi := ⟨some 12, _, _, _, _, none⟩) (v := ?_) rfl (by kernel_rfl) (by kernel_rfl) (by kernel_rfl) (by decide) (by kernel_rfl) (fun _ _ _ h => h) (Or.inl ⟨by rfl, ?_⟩) (by assumption) ?_
    rotate_left
    · intro w hSw; (try dsimp only at hSw); go_simp; try with_reducible rfl
    try simp only [Act.put, List.setIfInBounds_toArray, List.set_cons_zero, List.set_cons_succ]
    refine OrdU.wpAnyU_take (i := 1) (oi := ⟨some 13, _, _, _, _, none⟩) (v := ?_) rfl (by kernel_rfl) (by kernel_rfl) (by kernel_rfl) (by decide) (by kernel_rfl) (fun _ _ _ h => h) (Or.inl ⟨by rfl, ?_⟩) (by assumption) ?_
    rotate_left
    · intro w hSw; (try dsimp only at hSw); go_simp; try with_reducible rfl
    try simp only [Act.put, List.setIfInBounds_toArray, List.set_cons_zero, List.set_cons_succ]
    refine OrdU.wpAnyU_take (i := 2) (oi := ⟨some 14, _, _, _, _, none⟩) (v := ?_) rfl (by kernel_rfl) (by kernel_rfl) (by kernel_rfl) (by decide) (by kernel_rfl) (fun _ _ _ h => h) (Or.inl ⟨by rfl, ?_⟩) (by assumption) ?_
    rotate_left
    · intro w hSw; (try dsimp only at hSw); go_simp; try with_reducible rfl
    try simp only [Act.put, List.setIfInBounds_toArray, List.set_cons_zero, List.set_cons_succ]
    refine OrdU.wpAnyU_take (i := 3) (oi := ⟨some 15, _, _, _, _, none⟩) (v := ?_) rfl (by kernel_rfl) (by kernel_rfl) (by kernel_rfl) (by decide) (by kernel_rfl) (fun _ _ _ h => h) (Or.inl ⟨by rfl, ?_⟩) (by assumption) ?_
    rotate_left
    · intro w hSw; (try dsimp only at hSw); go_simp; try with_reducible rfl
    try simp only [Act.put, List.setIfInBounds_toArray, List.set_cons_zero, List.set_cons_succ]
    refine OrdU.wpAnyU_take (i := 4) (oi := ⟨some 16, _, _, _, _, none⟩) (v := ?_) rfl (by kernel_rfl) (by kernel_rfl) (by kernel_rfl) (by decide) (by kernel_rfl) (fun _ _ _ h => h) (Or.inl ⟨by rfl, ?_⟩) (by assumption) ?_
    rotate_left
    · intro w hSw; (try dsimp only at hSw); go_simp; try with_reducible rfl
    try simp only [Act.put, List.setIfInBounds_toArray, List.set_cons_zero, List.set_cons_succ]
    refine OrdU.wpAnyU_take (i := 5) (oi := ⟨some 17, _, _, _, _, none⟩) (v := ?_) rfl (by kernel_rfl) (by kernel_rfl) (by kernel_rfl) (by decide) (by kernel_rfl) (fun _ _ _ h => h) (Or.inl ⟨by rfl, ?_⟩) (by assumption) ?_
    rotate_left
    · intro w hSw; (try dsimp only at hSw); go_simp; try with_reducible rfl
    try simp only [Act.put, List.setIfInBounds_toArray, List.set_cons_zero, List.set_cons_succ]
    refine OrdU.wpAnyU_take (i := 6) (oi := ⟨some 18, _, _, _, _, none⟩) (v := ?_) rfl (by kernel_rfl) (by kernel_rfl) (by kernel_rfl) (by decide) (by kernel_rfl) (fun _ _ _ h => h) (Or.inl ⟨by rfl, ?_⟩) (by assumption) ?_
    rotate_left
    · intro w hSw; (try dsimp only at hSw); go_simp; try with_reducible rfl
    try simp only [Act.put, List.setIfInBounds_toArray, List.set_cons_zero, List.set_cons_succ]
    refine OrdU.wpAnyU_take (i := 7) (oi := ⟨some 19, _, _, _, _, none⟩) (v := ?_) rfl (by kernel_rfl) (by kernel_rfl) (by kernel_rfl) (by decide) (by kernel_rfl) (fun _ _ _ h => h) (Or.inl ⟨by rfl, ?_⟩) (by assumption) ?_
    rotate_left
    · intro w hSw; (try dsimp only at hSw); go_simp; try with_reducible rfl
    try simp only [Act.put, List.setIfInBounds_toArray, List.set_cons_zero, List.set_cons_succ]
    refine OrdU.wpAnyU_take (i := 8) (oi := ⟨some 20, _, _, _, _, none⟩) (v := ?_) rfl (by kernel_rfl) (by kernel_rfl) (by kernel_rfl) (by decide) (by kernel_rfl) (fun _ _ _ h => h) (Or.inl ⟨by rfl, ?_⟩) (by assumption) ?_
    rotate_left
    · intro w hSw; (try dsimp only at hSw); go_simp; try with_reducible rfl
    try simp only [Act.put, List.setIfInBounds_toArray, List.set_cons_zero, List.set_cons_succ]
    refine OrdU.wpAnyU_ready (rs := [9]) (by kernel_rfl) (by simp) ?_
    refine OrdU.AllReadyU.cons (o := ⟨some 21, _, _, _, _, none⟩) rfl (fun K' hK => ?_) OrdU.AllReadyU.nil
    go_simp
    go_at_call 34
    with_reducible refine HU.out.mono ?_
    rintro e w2 hT
    obtain ⟨hTT, v, rfl⟩ := hT.ends HW2.out
    have HTT := Lib.hid hTT
    clear hTT hT
    go_wp2_with fail
    refine hK.out _ _ (OrdU.no (by kernel_rfl)) (fun _ => ?_)
    clear hK K'
    try simp only [Act.put, List.setIfInBounds_toArray, List.set_cons_zero, List.set_cons_succ]
    refine OrdU.wpAnyU_ready (rs := [10]) (by kernel_rfl) (by simp) ?_
    refine OrdU.AllReadyU.cons (o := ⟨some 4, _, _, _, _, none⟩) rfl (fun K' hK => ?_) OrdU.AllReadyU.nil
    go_simp
    refine hK.out _ _ (OrdU.no (by kernel_rfl)) (fun _ => ?_)
    clear hK K'
    try simp only [Act.put, List.setIfInBounds_toArray, List.set_cons_zero, List.set_cons_succ]
    refine OrdU.wpAnyU_done (by kernel_rfl) ?_ _
    go_wp2_with fail
    go_ret
    exact HTT.out
end
end Go.Proofs.YtodejloonfkkmaaGreat.Mach
