/-
  Package direct, walked: a node is entered: what it does is told by the type of its tag.
-/
import Derived.Test.YtodejloonfkkmaaDirPSmall
import Derived.Test.YtodejloonfkkmaaOrdersU
import Derived.Deep.RegionHeld3
import Derived.Deep.DrawnRows
set_option linter.unusedVariables false
set_option linter.unusedSimpArgs false
namespace Go.Proofs.Ytodejloonfkkmaa.Dir
open Go.RowKit Mem _root_.Go.Proofs.Ytodejloonfkkmaa.Arena _root_.Go.Proofs.Ytodejloonfkkmaa.Kinds _root_.Go.Proofs.Ytodejloonfkkmaa.Path _root_.Go.Proofs.Ytodejloonfkkmaa.Cat _root_.Go.Proofs.Ytodejloonfkkmaa.Suite _root_.Go.Proofs.Ytodejloonfkkmaa.Mach
attribute [local go_sem ↓] Go.wp_at_zero Go.wp_at_succ

section
variable {K : DK} {κ : Nat → Nat} {evv : Value} {Y : List ((Option Addr × Nat) × List Int)} {s : St} {pos : Int} {W W' : World}
set_option maxRecDepth 100000 in
theorem denter_out (h : DM K κ evv Y s pos W) (ho : s.over = false) (h0 : s.steps = K.F) (v q : Int) : Calls Try.prog 33 #[.pointer (some ⟨K.g, 0, none⟩)] W (DEnds K κ (s.stop 4 0, v) q W) := by
  have HT := Lib.hid (take_out h h0)
  clear h
  go_enter Try.func33, Try.ntmps33
  go_wp2_with (first | (go_at_call 45; (with_reducible refine HT.out.mono ?_); rintro e w1 ⟨rfl, h1, hw1⟩) | fail)
  exact ⟨rfl, DEnds.stopped h1 hw1 ho 4 0⟩
set_option maxRecDepth 100000 in
set_option maxHeartbeats 2000000 in
theorem denter_on (h : DM K κ evv Y s pos W) (ho : s.over = false) (h0 : s.steps ≠ K.F) (hF : s.steps ≤ 10000) {k m : Nat} (hp : pos = k) {N : Int} (hx : K.p.xs[k]? = some ((m : Int), N)) (hm : m < 27) {T : TypeId} {F : FuncId}
    (hT : ∀ (K : DK) (evv : Value) (n : Nat) (pos : Int), (rcells K evv n pos)[9 + m]? = some (.iface T (.agg #[])))
    (hM : ∀ n W, (method (n + 1) T (.agg #[]) "offshoot/direct.does").run Try.prog W = .ok (F, .agg #[]) W)
    (hCF : ∀ (cs : Array Value) (W : World), (callFunc F cs).run Try.prog W = .ok (.enter F cs) W) {r : St × Int} {q' : Int}
    (HD : ∀ κ evv Y W, DM K κ evv Y s.tick ((k : Int) + 1) W → Calls Try.prog F #[.agg #[], .pointer (some ⟨K.g, 0, none⟩), .int .i64 N] W (DEnds K κ r q' W)) :
    Calls Try.prog 33 #[.pointer (some ⟨K.g, 0, none⟩)] W (DEnds K κ r q' W) := by
  subst hp
  have HT := Lib.hid (take_on h h0 hF)
  have hkx := (List.getElem?_eq_some_iff.1 hx).1
  have i1 : (k : Int) < (K.p.xs.length : Int) := by omega
  have i2 : (0 : Int) ≤ (k : Int) := by omega
  have hlx := h.lx
  have v1 : IntKind.i64.wrap ((k : Int) + 1) = (k : Int) + 1 := IntWalk.i64_in _ (by omega)
  have m1 : (m : Int) < 27 := by omega
  have m2 : (0 : Int) ≤ (m : Int) := by omega
  have HX := Lib.hid hx
  have HDD := Lib.hid HD
  have HTT := Lib.hid hT
  have hMM := hM
  clear h hx HD hT hM
  go_enter Try.func33, Try.ntmps33
  go_wp2_with (first | (go_at_call 45; (with_reducible refine HT.out.mono ?_); rintro e w1 ⟨rfl, h1, hw1⟩) | fail)
  obtain ⟨ad, hB, hbk, d0, d1⟩ := h1.body k _ HX.out
  simp only at d0 d1
  have c4 : w1.cell? ⟨K.g, 4, none⟩ = some (.slice K.p.B K.p.xs.length K.p.e) := h1.cell 4
  rw [hB] at c4
  have c5 : w1.cell? ⟨K.g, 5, none⟩ = some (.int .i64 k) := h1.cell 5
  have hz := h1.below ((Below.refl w1.heap.size w1).alloc (Nat.le_refl _) (.cells #[.int .i64 0, .int .i64 0] 39))
  have c4z : (w1.alloc (.cells #[.int .i64 0, .int .i64 0] 39)).cell? ⟨K.g, 4, none⟩ = some (.slice K.p.B K.p.xs.length K.p.e) := hz.cell 4
  rw [hB] at c4z
  have c5z : (w1.alloc (.cells #[.int .i64 0, .int .i64 0] 39)).cell? ⟨K.g, 5, none⟩ = some (.int .i64 k) := hz.cell 5
  obtain ⟨ad', hB', -, d0z, d1z⟩ := hz.body k _ HX.out
  obtain rfl : ad = ad' := by rw [hB] at hB'; exact Option.some.inj hB'
  simp only at d0z d1z
  have hb2 := ((Below.refl w1.heap.size w1).alloc (Nat.le_refl _) (.cells #[.int .i64 (m : Int), .int .i64 N] 39))
  have bX : Blk (w1.alloc (.cells #[.int .i64 (m : Int), .int .i64 N] 39)) w1.heap.size 39 #[.int .i64 (m : Int), .int .i64 N] := Blk.new w1 _ _
  have h2 := h1.below hb2
  have hw2 := hw1.below hb2
  have c5a : (w1.alloc (.cells #[.int .i64 (m : Int), .int .i64 N] 39)).cell? ⟨K.g, 5, none⟩ = some (.int .i64 k) := h2.cell 5
  have f5a := h2.blk.frozen 5
  have h3 := h2.goto ((k : Int) + 1)
  have hw3 := hw2.setCell (a := ⟨K.g, 5, none⟩) (.inl (by rw [h1.lab.g]; decide)) (.int .i64 ((k : Int) + 1))
  have bX3 : Blk ((w1.alloc (.cells #[.int .i64 (m : Int), .int .i64 N] 39)).setCell ⟨K.g, 5, none⟩ (.int .i64 ((k : Int) + 1))) w1.heap.size 39 #[.int .i64 (m : Int), .int .i64 N] := bX.apart (by show w1.heap.size ≠ K.g; have := h1.glt; omega) _
  have cT : ((w1.alloc (.cells #[.int .i64 (m : Int), .int .i64 N] 39)).setCell ⟨K.g, 5, none⟩ (.int .i64 ((k : Int) + 1))).cell? ⟨K.g, 9 + m, none⟩ = some (.iface T (.agg #[])) := by
    rw [h3.cell (9 + m)]; exact HTT.out _ _ _ _
  obtain ⟨x0, x1⟩ := bX3.two
  have H3 := Lib.hid h3
  have HW3 := Lib.hid hw3
  clear h1 hw1 hB hB' hz hb2 bX h2 hw2 h3 hw3 bX3
  obtain ⟨W3, hW3⟩ : ∃ W3, ((w1.alloc (.cells #[.int .i64 (m : Int), .int .i64 N] 39)).setCell ⟨K.g, 5, none⟩ (.int .i64 ((k : Int) + 1))).drew = W3 := ⟨_, rfl⟩
  have H4 := Lib.hid (show DM K κ evv Y s.tick ((k : Int) + 1) W3.drew from by rw [← hW3]; exact H3.out.drew.drew)
  have HW4 := Lib.hid (show Went κ κ W W3.drew from by rw [← hW3]; exact HW3.out.drew.drew)
  have hS : (fun w' : World => w'.cell? ⟨K.g, 9 + m, none⟩ = some (.iface T (.agg #[])) ∧ w'.cell? ⟨w1.heap.size, 0, none⟩ = some (.int .i64 (m : Int)) ∧ w'.cell? ⟨w1.heap.size, 1, none⟩ = some (.int .i64 N)) W3 := by rw [← hW3]; exact ⟨cT, x0, x1⟩
  have HWW := Lib.hid hW3
  clear cT x0 x1 H3 HW3 hW3
  go_region
  go_wp2_with fail
  rw [HWW.out]
  refine OrdU.wp_region_U 10 (fun w' => w'.cell? ⟨K.g, 9 + m, none⟩ = some (.iface T (.agg #[])) ∧ w'.cell? ⟨w1.heap.size, 0, none⟩ = some (.int .i64 (m : Int)) ∧ w'.cell? ⟨w1.heap.size, 1, none⟩ = some (.int .i64 N)) (by kernel_rfl) hS (fun hHeld => ?_)
  refine OrdU.wpAnyU_take (i := 0) (oi := ⟨some 23, _, _, _, _, none⟩) (v := ?_) rfl (by kernel_rfl) (by kernel_rfl) (by kernel_rfl) (by decide) (by kernel_rfl) (fun _ _ _ h => h) (Or.inl ⟨by rfl, ?_⟩) (by assumption) ?_
  rotate_left
  · intro w hSw; (try dsimp only at hSw); go_simp; try with_reducible rfl
  try simp only [Act.put, List.setIfInBounds_toArray, List.set_cons_zero, List.set_cons_succ]
  refine OrdU.wpAnyU_take (i := 1) (oi := ⟨some 24, _, _, _, _, none⟩) (v := ?_) rfl (by kernel_rfl) (by kernel_rfl) (by kernel_rfl) (by decide) (by kernel_rfl) (fun _ _ _ h => h) (Or.inl ⟨by rfl, ?_⟩) (by assumption) ?_
  rotate_left
  · intro w hSw; (try dsimp only at hSw); go_simp; try with_reducible rfl
  try simp only [Act.put, List.setIfInBounds_toArray, List.set_cons_zero, List.set_cons_succ]
  refine OrdU.wpAnyU_take (i := 2) (oi := ⟨some 25, _, _, _, _, none⟩) (v := ?_) rfl (by kernel_rfl) (by kernel_rfl) (by kernel_rfl) (by decide) (by kernel_rfl) (fun _ _ _ h => h) (Or.inl ⟨by rfl, ?_⟩) (by assumption) ?_
  rotate_left
  · intro w hSw; (try dsimp only at hSw); go_simp; try with_reducible rfl
  try simp only [Act.put, List.setIfInBounds_toArray, List.set_cons_zero, List.set_cons_succ]
  refine OrdU.wpAnyU_take (i := 3) (oi := ⟨some 26, _, _, _, _, none⟩) (v := ?_) rfl (by kernel_rfl) (by kernel_rfl) (by kernel_rfl) (by decide) (by kernel_rfl) (fun _ _ _ h => h) (Or.inl ⟨by rfl, ?_⟩) (by assumption) ?_
  rotate_left
  · intro w hSw; (try dsimp only at hSw); go_simp; try with_reducible rfl
  try simp only [Act.put, List.setIfInBounds_toArray, List.set_cons_zero, List.set_cons_succ]
  refine OrdU.wpAnyU_take (i := 4) (oi := ⟨some 27, _, _, _, _, none⟩) (v := ?_) rfl (by kernel_rfl) (by kernel_rfl) (by kernel_rfl) (by decide) (by kernel_rfl) (fun _ _ _ h => h) (Or.inl ⟨by rfl, ?_⟩) (by assumption) ?_
  rotate_left
  · intro w hSw; (try dsimp only at hSw); go_simp; try with_reducible rfl
  try simp only [Act.put, List.setIfInBounds_toArray, List.set_cons_zero, List.set_cons_succ]
  refine OrdU.wpAnyU_take (i := 5) (oi := ⟨some 28, _, _, _, _, none⟩) (v := ?_) rfl (by kernel_rfl) (by kernel_rfl) (by kernel_rfl) (by decide) (by kernel_rfl) (fun _ _ _ h => h) (Or.inl ⟨by rfl, ?_⟩) (by assumption) ?_
  rotate_left
  · intro w hSw; (try dsimp only at hSw); go_simp; try with_reducible rfl
  try simp only [Act.put, List.setIfInBounds_toArray, List.set_cons_zero, List.set_cons_succ]
  refine OrdU.wpAnyU_take (i := 6) (oi := ⟨some 29, _, _, _, _, none⟩) (v := ?_) rfl (by kernel_rfl) (by kernel_rfl) (by kernel_rfl) (by decide) (by kernel_rfl) (fun _ _ _ h => h) (Or.inl ⟨by rfl, ?_⟩) (by assumption) ?_
  rotate_left
  · intro w hSw; (try dsimp only at hSw); go_simp; try with_reducible rfl
  try simp only [Act.put, List.setIfInBounds_toArray, List.set_cons_zero, List.set_cons_succ]
  refine OrdU.wpAnyU_take (i := 7) (oi := ⟨some 30, _, _, _, _, none⟩) (v := ?_) rfl (by kernel_rfl) (by kernel_rfl) (by kernel_rfl) (by decide) (by kernel_rfl) (fun _ _ _ h => h) (Or.inl ⟨by rfl, ?_⟩) (by assumption) ?_
  rotate_left
  · intro w hSw; (try dsimp only at hSw); go_simp; try with_reducible rfl
  try simp only [Act.put, List.setIfInBounds_toArray, List.set_cons_zero, List.set_cons_succ]
  refine OrdU.wpAnyU_take (i := 8) (oi := ⟨some 31, _, _, _, _, none⟩) (v := ?_) rfl (by kernel_rfl) (by kernel_rfl) (by kernel_rfl) (by decide) (by kernel_rfl) (fun _ _ _ h => h) (Or.inl ⟨by rfl, ?_⟩) (by assumption) ?_
  rotate_left
  · intro w hSw; (try dsimp only at hSw); go_simp; try with_reducible rfl
  try simp only [Act.put, List.setIfInBounds_toArray, List.set_cons_zero, List.set_cons_succ]
  refine OrdU.wpAnyU_take (i := 9) (oi := ⟨some 32, _, _, _, _, none⟩) (v := ?_) rfl (by kernel_rfl) (by kernel_rfl) (by kernel_rfl) (by decide) (by kernel_rfl) (fun _ _ _ h => h) (Or.inl ⟨by rfl, ?_⟩) (by assumption) ?_
  rotate_left
  · intro w hSw; (try dsimp only at hSw); go_simp; try with_reducible rfl
  try simp only [Act.put, List.setIfInBounds_toArray, List.set_cons_zero, List.set_cons_succ]
  refine OrdU.wpAnyU_ready (rs := [10]) (by kernel_rfl) (by simp) ?_
  refine OrdU.AllReadyU.cons (o := ⟨some 33, _, _, _, _, none⟩) rfl (fun K' hK => ?_) OrdU.AllReadyU.nil
  go_simp
  (refine (HDD.out _ _ _ _ H4.out).mono ?_)
  rintro e w2 hE
  have HE := Lib.hid (hE.then HW4.out)
  by_cases hr : r.1.over = true
  · obtain ⟨rfl, -⟩ := hE.to_over hr
    clear hE
    go_simp
    exact ⟨rfl, HE.out⟩
  have hr : r.1.over = false := by simpa using hr
  obtain ⟨rfl, -⟩ := hE.to_on hr
  clear hE
  go_simp
  refine hK.out _ _ (OrdU.no (by kernel_rfl)) (fun _ => ?_)
  clear hK K'
  try simp only [Act.put, List.setIfInBounds_toArray, List.set_cons_zero, List.set_cons_succ]
  refine OrdU.wpAnyU_ready (rs := [11]) (by kernel_rfl) (by simp) ?_
  refine OrdU.AllReadyU.cons (o := ⟨some 2, _, _, _, _, none⟩) rfl (fun K' hK => ?_) OrdU.AllReadyU.nil
  go_simp
  refine hK.out _ _ (OrdU.no (by kernel_rfl)) (fun _ => ?_)
  clear hK K'
  try simp only [Act.put, List.setIfInBounds_toArray, List.set_cons_zero, List.set_cons_succ]
  refine OrdU.wpAnyU_done (by kernel_rfl) ?_ _
  go_wp2_with fail
  go_ret
  exact HE.out
end
end Go.Proofs.Ytodejloonfkkmaa.Dir
