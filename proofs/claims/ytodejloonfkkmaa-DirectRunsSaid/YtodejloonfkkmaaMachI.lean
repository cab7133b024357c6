/-
  The reference of machine, walked: the first kid ends it; or; if.
  The reference of machine, walked: while; two values.
  The reference of machine, walked: a block.
  The reference of machine, walked: a variable set, an array read, an array set.
  The reference of machine, walked: an array set.
-/
import Derived.Test.YtodejloonfkkmaaMachH
import Derived.Test.YtodejloonfkkmaaMachG
import Derived.BigQuiet
set_option linter.unusedVariables false
set_option linter.unusedSimpArgs false
namespace Go.Proofs.Ytodejloonfkkmaa.Mach
open Go.RowKit Mem _root_.Go.Proofs.Ytodejloonfkkmaa.Arena _root_.Go.Proofs.Ytodejloonfkkmaa.Kinds _root_.Go.Proofs.Ytodejloonfkkmaa.Path _root_.Go.Proofs.Ytodejloonfkkmaa.Cat _root_.Go.Proofs.Ytodejloonfkkmaa.Suite
attribute [local go_sem ↓] Go.wp_at_zero Go.wp_at_succ
section
variable {T : TypeId} {base g : Nat} {κ κ' : Nat → Nat} {p : Prg} {vv av evv : Value} {Y : List ((Option Addr × Nat) × List Int)} {s : St} {W W' : World}
set_option maxRecDepth 100000 in
set_option maxHeartbeats 2000000 in
theorem enter_first (h : SM T base g κ p vv av evv Y s W) (hE : EIn base p W) (hf : Fits s) (ho : s.over = false) (h0 : s.fuel ≠ 0) {k : Nat} {t N : Int} (hx : p.xs[k]? = some (t, N)) (n1 : t ≠ 1) (n2 : t ≠ 2) (n3 : t ≠ 3) (n20 : t ≠ 20) (n26 : t ≠ 26) {q : Int} {ks : List Int} (hk : akids p.xs k = q :: ks) {r : St × Int} (hc : KidOk T base g p vv av q s.tick r) (hso : r.1.over = true) : Calls Try.prog 23 #[.pointer (some ⟨g, 0, none⟩), .int .i64 k] W (NEnds T base g κ p vv av (r.1, 0) W) := by
  have c10 : W.cell? ⟨g, 10, none⟩ = some (.bool s.over) := h.cell 10
  have c5 : W.cell? ⟨g, 5, none⟩ = some (.int .i64 s.fuel) := h.cell 5
  have c6 : W.cell? ⟨g, 6, none⟩ = some (.int .i64 s.steps) := h.cell 6
  have c2 : W.cell? ⟨g, 2, none⟩ = some (.slice p.B p.xs.length p.e) := h.cell 2
  have f5 := h.blk.frozen 5
  have f6 := h.blk.frozen 6
  rw [ho] at c10
  have hft := hf.top
  have e1 : IntKind.i64.wrap ((s.fuel : Int) - 1) = ((s.fuel - 1 : Nat) : Int) := by rw [IntWalk.i64_in _ (by omega)]; omega
  have e2 : IntKind.i64.wrap ((s.steps : Int) + 1) = (s.steps : Int) + 1 := IntWalk.i64_in _ (by omega)
  have e3 : ¬ (s.fuel : Int) = 0 := by omega
  have hkx := (List.getElem?_eq_some_iff.1 hx).1
  have i1 : (k : Int) < (p.xs.length : Int) := by omega
  have i2 : (0 : Int) ≤ (k : Int) := by omega
  have hlx := hE.lx
  have h2 := (h.fuel (n := ((s.fuel - 1 : Nat) : Int)) rfl).steps (n := (s.steps : Int) + 1) (m := s.steps + 1) (by omega)
  have hg1 : κ g ≠ 0 := by rw [h.lab.g]; decide
  have hgb := h.glt
  have hw2 := ((Went.refl κ W).setCell (a := ⟨g, 5, none⟩) (.inl hg1) (.int .i64 ((s.fuel - 1 : Nat) : Int))).setCell (a := ⟨g, 6, none⟩) (.inl hg1) (.int .i64 ((s.steps : Int) + 1))
  have hE2 := hE.went h hw2
  obtain ⟨ad, hB, hbk, d0, d1⟩ := hE2.body k (t, N) hx
  simp only at d0 d1
  have b3 := Blk.new ((W.setCell ⟨g, 5, none⟩ (.int .i64 ((s.fuel - 1 : Nat) : Int))).setCell ⟨g, 6, none⟩ (.int .i64 ((s.steps : Int) + 1))) 39 #[.int .i64 t, .int .i64 N]
  have hb3 := (Below.refl ((W.setCell ⟨g, 5, none⟩ (.int .i64 ((s.fuel - 1 : Nat) : Int))).setCell ⟨g, 6, none⟩ (.int .i64 ((s.steps : Int) + 1))).heap.size ((W.setCell ⟨g, 5, none⟩ (.int .i64 ((s.fuel - 1 : Nat) : Int))).setCell ⟨g, 6, none⟩ (.int .i64 ((s.steps : Int) + 1)))).alloc (Nat.le_refl _) (.cells #[.int .i64 t, .int .i64 N] 39)
  have h3 := h2.below hb3
  have hw3 := hw2.below hb3
  have hE3 := hE.went h hw3
  simp only [World.size_setCell] at b3
  have HK := Lib.hid (fun W1 (hE1 : EIn base p W1) => ref_Kids_any p.B p.e p.xs (k : Int) W1 (nodes_wide hE1.body hE1.size) hlx)
  rw [hB] at c2 HK
  have HX := Lib.hid hE3
  have HH := Lib.hid h3
  have HW := Lib.hid hw3
  have HLT := Lib.hid h.lab.lt
  clear h hE h2 hw2 hE2 h3 hw3 hE3 hb3
  rw [hk] at HK
  have HC := Lib.hid hc
  obtain ⟨s1, a⟩ := r
  simp only at hso
  clear hc
  have hn5 : ¬ κ W.heap.size ≠ 0 := fun z => by have := (HLT.out _ z).2; omega
  go_enter Try.func23, Try.ntmps23
  go_wp2_with (first
    | (go_at_call 38; refine (HK.out _ HX.out).mono ?_; rintro e w1 ⟨hb1, v, rfl, hO⟩; have x0 := (b3.below hb1 b3.lt).cell 0; have x1 := (b3.below hb1 b3.lt).cell 1; obtain ⟨bk, ck, rfl, -⟩ := own_block hO (by simp); have k0 := own_read (m := 0) hO rfl; have h4 : SM T base g κ p vv av evv Y s.tick w1 := HH.out.below hb1; have hE4 := HX.out.went HH.out ((Went.refl κ _).below hb1))
    | (go_at_call 23; (with_reducible refine (HC.out _ _ _ _ h4 hE4).mono ?_); rintro e w2 ⟨rfl, κ2, evv2, Y2, h5, hw5⟩; have b5 := (b3.below hb1 b3.lt).kept hw5.kept hn5; have z0 := b5.cell 0; have z1 := b5.cell 1; have o10 : w2.cell? ⟨g, 10, none⟩ = some (.bool s1.over) := h5.cell 10; rw [hso] at o10))
  go_ret
  exact ⟨rfl, κ2, evv2, Y2, h5, (HW.out.below hb1).trans hw5⟩
set_option maxRecDepth 100000 in
set_option maxHeartbeats 2000000 in
theorem enter_or (h : SM T base g κ p vv av evv Y s W) (hE : EIn base p W) (hf : Fits s) (ho : s.over = false) (h0 : s.fuel ≠ 0) {k : Nat} {t N : Int} (hx : p.xs[k]? = some (t, N)) (ht : t = 19) {q q2 : Int} {ks : List Int} (hk : akids p.xs k = q :: q2 :: ks) {r r2 : St × Int} (hc : KidOk T base g p vv av q s.tick r) (hc2 : KidOk T base g p vv av q2 r.1 r2) (hso : r.1.over = false) : Calls Try.prog 23 #[.pointer (some ⟨g, 0, none⟩), .int .i64 k] W (NEnds T base g κ p vv av (if r.2 = 1 then (r.1, 1) else r2) W) := by
  have c10 : W.cell? ⟨g, 10, none⟩ = some (.bool s.over) := h.cell 10
  have c5 : W.cell? ⟨g, 5, none⟩ = some (.int .i64 s.fuel) := h.cell 5
  have c6 : W.cell? ⟨g, 6, none⟩ = some (.int .i64 s.steps) := h.cell 6
  have c2 : W.cell? ⟨g, 2, none⟩ = some (.slice p.B p.xs.length p.e) := h.cell 2
  have f5 := h.blk.frozen 5
  have f6 := h.blk.frozen 6
  rw [ho] at c10
  have hft := hf.top
  have e1 : IntKind.i64.wrap ((s.fuel : Int) - 1) = ((s.fuel - 1 : Nat) : Int) := by rw [IntWalk.i64_in _ (by omega)]; omega
  have e2 : IntKind.i64.wrap ((s.steps : Int) + 1) = (s.steps : Int) + 1 := IntWalk.i64_in _ (by omega)
  have e3 : ¬ (s.fuel : Int) = 0 := by omega
  have hkx := (List.getElem?_eq_some_iff.1 hx).1
  have i1 : (k : Int) < (p.xs.length : Int) := by omega
  have i2 : (0 : Int) ≤ (k : Int) := by omega
  have hlx := hE.lx
  have h2 := (h.fuel (n := ((s.fuel - 1 : Nat) : Int)) rfl).steps (n := (s.steps : Int) + 1) (m := s.steps + 1) (by omega)
  have hg1 : κ g ≠ 0 := by rw [h.lab.g]; decide
  have hgb := h.glt
  have hw2 := ((Went.refl κ W).setCell (a := ⟨g, 5, none⟩) (.inl hg1) (.int .i64 ((s.fuel - 1 : Nat) : Int))).setCell (a := ⟨g, 6, none⟩) (.inl hg1) (.int .i64 ((s.steps : Int) + 1))
  have hE2 := hE.went h hw2
  obtain ⟨ad, hB, hbk, d0, d1⟩ := hE2.body k (t, N) hx
  simp only at d0 d1
  have b3 := Blk.new ((W.setCell ⟨g, 5, none⟩ (.int .i64 ((s.fuel - 1 : Nat) : Int))).setCell ⟨g, 6, none⟩ (.int .i64 ((s.steps : Int) + 1))) 39 #[.int .i64 t, .int .i64 N]
  have hb3 := (Below.refl ((W.setCell ⟨g, 5, none⟩ (.int .i64 ((s.fuel - 1 : Nat) : Int))).setCell ⟨g, 6, none⟩ (.int .i64 ((s.steps : Int) + 1))).heap.size ((W.setCell ⟨g, 5, none⟩ (.int .i64 ((s.fuel - 1 : Nat) : Int))).setCell ⟨g, 6, none⟩ (.int .i64 ((s.steps : Int) + 1)))).alloc (Nat.le_refl _) (.cells #[.int .i64 t, .int .i64 N] 39)
  have h3 := h2.below hb3
  have hw3 := hw2.below hb3
  have hE3 := hE.went h hw3
  simp only [World.size_setCell] at b3
  have HK := Lib.hid (fun W1 (hE1 : EIn base p W1) => ref_Kids_any p.B p.e p.xs (k : Int) W1 (nodes_wide hE1.body hE1.size) hlx)
  rw [hB] at c2 HK
  have HX := Lib.hid hE3
  have HH := Lib.hid h3
  have HW := Lib.hid hw3
  have HLT := Lib.hid h.lab.lt
  clear h hE h2 hw2 hE2 h3 hw3 hE3 hb3
  rw [hk] at HK
  have HC := Lib.hid hc
  obtain ⟨s1, a⟩ := r
  simp only at hso
  clear hc
  have hn5 : ¬ κ W.heap.size ≠ 0 := fun z => by have := (HLT.out _ z).2; omega
  subst ht
  have HC2 := Lib.hid hc2
  obtain ⟨s2, b⟩ := r2
  simp only
  clear hc2
  by_cases ha : a = 1
  · subst ha
    go_enter Try.func23, Try.ntmps23
    go_wp2_with (first
      | (go_at_call 38; refine (HK.out _ HX.out).mono ?_; rintro e w1 ⟨hb1, v, rfl, hO⟩; have x0 := (b3.below hb1 b3.lt).cell 0; have x1 := (b3.below hb1 b3.lt).cell 1; obtain ⟨bk, ck, rfl, -⟩ := own_block hO (by simp); have k0 := own_read (m := 0) hO rfl; have h4 : SM T base g κ p vv av evv Y s.tick w1 := HH.out.below hb1; have hE4 := HX.out.went HH.out ((Went.refl κ _).below hb1))
      | (go_at_call 23; (with_reducible refine (HC.out _ _ _ _ h4 hE4).mono ?_); rintro e w2 ⟨rfl, κ2, evv2, Y2, h5, hw5⟩; have b5 := (b3.below hb1 b3.lt).kept hw5.kept hn5; have z0 := b5.cell 0; have z1 := b5.cell 1; have o10 : w2.cell? ⟨g, 10, none⟩ = some (.bool s1.over) := h5.cell 10; rw [hso] at o10))
    go_ret
    exact ⟨rfl, κ2, evv2, Y2, h5, (HW.out.below hb1).trans hw5⟩
  · rw [if_neg ha]
    go_enter Try.func23, Try.ntmps23
    go_wp2_with (first
      | (go_at_call 38; refine (HK.out _ HX.out).mono ?_; rintro e w1 ⟨hb1, v, rfl, hO⟩; have x0 := (b3.below hb1 b3.lt).cell 0; have x1 := (b3.below hb1 b3.lt).cell 1; obtain ⟨bk, ck, rfl, -⟩ := own_block hO (by simp); have k0 := own_read (m := 0) hO rfl; have h4 : SM T base g κ p vv av evv Y s.tick w1 := HH.out.below hb1; have hE4 := HX.out.went HH.out ((Went.refl κ _).below hb1))
      | (go_at_call 23; (with_reducible refine (HC.out _ _ _ _ h4 hE4).mono ?_); rintro e w2 ⟨rfl, κ2, evv2, Y2, h5, hw5⟩; have b5 := (b3.below hb1 b3.lt).kept hw5.kept hn5; have z0 := b5.cell 0; have z1 := b5.cell 1; have o10 : w2.cell? ⟨g, 10, none⟩ = some (.bool s1.over) := h5.cell 10; rw [hso] at o10; have hO2 := own_of_block hO (fun i e => hw5.kept.block i (hO.lt i e).2 (fun z => by have q1 := (HLT.out i z).2; have q2 := (hO.lt i e).1; simp only [World.size_alloc, World.size_setCell] at q2; omega)); have hE5 := hE4.went h4 hw5; have k1 := own_read (m := 1) hO2 rfl)
      | (go_at_call 23; (with_reducible refine (HC2.out _ _ _ _ h5 hE5).mono ?_); rintro e w3 ⟨rfl, κ3, evv3, Y3, h6, hw6⟩))
    go_ret
    exact ⟨rfl, κ3, evv3, Y3, h6, ((HW.out.below hb1).trans hw5).trans hw6⟩
set_option maxRecDepth 100000 in
set_option maxHeartbeats 2000000 in
theorem enter_if (h : SM T base g κ p vv av evv Y s W) (hE : EIn base p W) (hf : Fits s) (ho : s.over = false) (h0 : s.fuel ≠ 0) {k : Nat} {t N : Int} (hx : p.xs[k]? = some (t, N)) (ht : t = 23) {q q2 q3 : Int} {ks : List Int} (hk : akids p.xs k = q :: q2 :: q3 :: ks) {r r2 : St × Int} (hc : KidOk T base g p vv av q s.tick r) (hi : (r.2 = 1 ∧ KidOk T base g p vv av q2 r.1 r2) ∨ (r.2 = 0 ∧ KidOk T base g p vv av q3 r.1 r2)) (hso : r.1.over = false) : Calls Try.prog 23 #[.pointer (some ⟨g, 0, none⟩), .int .i64 k] W (NEnds T base g κ p vv av r2 W) := by
  have c10 : W.cell? ⟨g, 10, none⟩ = some (.bool s.over) := h.cell 10
  have c5 : W.cell? ⟨g, 5, none⟩ = some (.int .i64 s.fuel) := h.cell 5
  have c6 : W.cell? ⟨g, 6, none⟩ = some (.int .i64 s.steps) := h.cell 6
  have c2 : W.cell? ⟨g, 2, none⟩ = some (.slice p.B p.xs.length p.e) := h.cell 2
  have f5 := h.blk.frozen 5
  have f6 := h.blk.frozen 6
  rw [ho] at c10
  have hft := hf.top
  have e1 : IntKind.i64.wrap ((s.fuel : Int) - 1) = ((s.fuel - 1 : Nat) : Int) := by rw [IntWalk.i64_in _ (by omega)]; omega
  have e2 : IntKind.i64.wrap ((s.steps : Int) + 1) = (s.steps : Int) + 1 := IntWalk.i64_in _ (by omega)
  have e3 : ¬ (s.fuel : Int) = 0 := by omega
  have hkx := (List.getElem?_eq_some_iff.1 hx).1
  have i1 : (k : Int) < (p.xs.length : Int) := by omega
  have i2 : (0 : Int) ≤ (k : Int) := by omega
  have hlx := hE.lx
  have h2 := (h.fuel (n := ((s.fuel - 1 : Nat) : Int)) rfl).steps (n := (s.steps : Int) + 1) (m := s.steps + 1) (by omega)
  have hg1 : κ g ≠ 0 := by rw [h.lab.g]; decide
  have hgb := h.glt
  have hw2 := ((Went.refl κ W).setCell (a := ⟨g, 5, none⟩) (.inl hg1) (.int .i64 ((s.fuel - 1 : Nat) : Int))).setCell (a := ⟨g, 6, none⟩) (.inl hg1) (.int .i64 ((s.steps : Int) + 1))
  have hE2 := hE.went h hw2
  obtain ⟨ad, hB, hbk, d0, d1⟩ := hE2.body k (t, N) hx
  simp only at d0 d1
  have b3 := Blk.new ((W.setCell ⟨g, 5, none⟩ (.int .i64 ((s.fuel - 1 : Nat) : Int))).setCell ⟨g, 6, none⟩ (.int .i64 ((s.steps : Int) + 1))) 39 #[.int .i64 t, .int .i64 N]
  have hb3 := (Below.refl ((W.setCell ⟨g, 5, none⟩ (.int .i64 ((s.fuel - 1 : Nat) : Int))).setCell ⟨g, 6, none⟩ (.int .i64 ((s.steps : Int) + 1))).heap.size ((W.setCell ⟨g, 5, none⟩ (.int .i64 ((s.fuel - 1 : Nat) : Int))).setCell ⟨g, 6, none⟩ (.int .i64 ((s.steps : Int) + 1)))).alloc (Nat.le_refl _) (.cells #[.int .i64 t, .int .i64 N] 39)
  have h3 := h2.below hb3
  have hw3 := hw2.below hb3
  have hE3 := hE.went h hw3
  simp only [World.size_setCell] at b3
  have HK := Lib.hid (fun W1 (hE1 : EIn base p W1) => ref_Kids_any p.B p.e p.xs (k : Int) W1 (nodes_wide hE1.body hE1.size) hlx)
  rw [hB] at c2 HK
  have HX := Lib.hid hE3
  have HH := Lib.hid h3
  have HW := Lib.hid hw3
  have HLT := Lib.hid h.lab.lt
  clear h hE h2 hw2 hE2 h3 hw3 hE3 hb3
  rw [hk] at HK
  have HC := Lib.hid hc
  obtain ⟨s1, a⟩ := r
  simp only at hso
  clear hc
  have hn5 : ¬ κ W.heap.size ≠ 0 := fun z => by have := (HLT.out _ z).2; omega
  subst ht
  obtain ⟨s2, b⟩ := r2
  simp only at hi
  rcases hi with ⟨rfl, hc2⟩ | ⟨rfl, hc2⟩
  · have HC2 := Lib.hid hc2
    clear hc2
    go_enter Try.func23, Try.ntmps23
    go_wp2_with (first
      | (go_at_call 38; refine (HK.out _ HX.out).mono ?_; rintro e w1 ⟨hb1, v, rfl, hO⟩; have x0 := (b3.below hb1 b3.lt).cell 0; have x1 := (b3.below hb1 b3.lt).cell 1; obtain ⟨bk, ck, rfl, -⟩ := own_block hO (by simp); have k0 := own_read (m := 0) hO rfl; have h4 : SM T base g κ p vv av evv Y s.tick w1 := HH.out.below hb1; have hE4 := HX.out.went HH.out ((Went.refl κ _).below hb1))
      | (go_at_call 23; (with_reducible refine (HC.out _ _ _ _ h4 hE4).mono ?_); rintro e w2 ⟨rfl, κ2, evv2, Y2, h5, hw5⟩; have b5 := (b3.below hb1 b3.lt).kept hw5.kept hn5; have z0 := b5.cell 0; have z1 := b5.cell 1; have o10 : w2.cell? ⟨g, 10, none⟩ = some (.bool s1.over) := h5.cell 10; rw [hso] at o10; have hO2 := own_of_block hO (fun i e => hw5.kept.block i (hO.lt i e).2 (fun z => by have q1 := (HLT.out i z).2; have q2 := (hO.lt i e).1; simp only [World.size_alloc, World.size_setCell] at q2; omega)); have hE5 := hE4.went h4 hw5; have k1 := own_read (m := 1) hO2 rfl)
      | (go_at_call 23; (with_reducible refine (HC2.out _ _ _ _ h5 hE5).mono ?_); rintro e w3 ⟨rfl, κ3, evv3, Y3, h6, hw6⟩))
    go_ret
    exact ⟨rfl, κ3, evv3, Y3, h6, ((HW.out.below hb1).trans hw5).trans hw6⟩
  · have HC2 := Lib.hid hc2
    clear hc2
    go_enter Try.func23, Try.ntmps23
    go_wp2_with (first
      | (go_at_call 38; refine (HK.out _ HX.out).mono ?_; rintro e w1 ⟨hb1, v, rfl, hO⟩; have x0 := (b3.below hb1 b3.lt).cell 0; have x1 := (b3.below hb1 b3.lt).cell 1; obtain ⟨bk, ck, rfl, -⟩ := own_block hO (by simp); have k0 := own_read (m := 0) hO rfl; have h4 : SM T base g κ p vv av evv Y s.tick w1 := HH.out.below hb1; have hE4 := HX.out.went HH.out ((Went.refl κ _).below hb1))
      | (go_at_call 23; (with_reducible refine (HC.out _ _ _ _ h4 hE4).mono ?_); rintro e w2 ⟨rfl, κ2, evv2, Y2, h5, hw5⟩; have b5 := (b3.below hb1 b3.lt).kept hw5.kept hn5; have z0 := b5.cell 0; have z1 := b5.cell 1; have o10 : w2.cell? ⟨g, 10, none⟩ = some (.bool s1.over) := h5.cell 10; rw [hso] at o10; have hO2 := own_of_block hO (fun i e => hw5.kept.block i (hO.lt i e).2 (fun z => by have q1 := (HLT.out i z).2; have q2 := (hO.lt i e).1; simp only [World.size_alloc, World.size_setCell] at q2; omega)); have hE5 := hE4.went h4 hw5; have k1 := own_read (m := 2) hO2 rfl)
      | (go_at_call 23; (with_reducible refine (HC2.out _ _ _ _ h5 hE5).mono ?_); rintro e w3 ⟨rfl, κ3, evv3, Y3, h6, hw6⟩))
    go_ret
    exact ⟨rfl, κ3, evv3, Y3, h6, ((HW.out.below hb1).trans hw5).trans hw6⟩
end
end Go.Proofs.Ytodejloonfkkmaa.Mach

set_option linter.unusedVariables false
set_option linter.unusedSimpArgs false
namespace Go.Proofs.Ytodejloonfkkmaa.Mach
open Go.RowKit Mem _root_.Go.Proofs.Ytodejloonfkkmaa.Arena _root_.Go.Proofs.Ytodejloonfkkmaa.Kinds _root_.Go.Proofs.Ytodejloonfkkmaa.Path _root_.Go.Proofs.Ytodejloonfkkmaa.Cat _root_.Go.Proofs.Ytodejloonfkkmaa.Suite
attribute [local go_sem ↓] Go.wp_at_zero Go.wp_at_succ
section
variable {T : TypeId} {base g : Nat} {κ κ' : Nat → Nat} {p : Prg} {vv av evv : Value} {Y : List ((Option Addr × Nat) × List Int)} {s : St} {W W' : World}
set_option maxRecDepth 100000 in
set_option maxHeartbeats 2000000 in
theorem enter_while (h : SM T base g κ p vv av evv Y s W) (hE : EIn base p W) (hf : Fits s) (ho : s.over = false) (h0 : s.fuel ≠ 0) {k : Nat} {t N : Int} (hx : p.xs[k]? = some (t, N)) (ht : t = 24) {q q2 : Int} {ks : List Int} (hk : akids p.xs k = q :: q2 :: ks) {r r2 : St × Int} (hc : KidOk T base g p vv av q s.tick r) (hc2 : r.2 = 1 → KidOk T base g p vv av q2 r.1 r2) (hso : r.1.over = false) {r3 : St × Int} (hc3 : r.2 = 1 → KidOk T base g p vv av k r2.1 r3) : Calls Try.prog 23 #[.pointer (some ⟨g, 0, none⟩), .int .i64 k] W (NEnds T base g κ p vv av (if r.2 = 1 then r3.1 else r.1, 0) W) := by
  have c10 : W.cell? ⟨g, 10, none⟩ = some (.bool s.over) := h.cell 10
  have c5 : W.cell? ⟨g, 5, none⟩ = some (.int .i64 s.fuel) := h.cell 5
  have c6 : W.cell? ⟨g, 6, none⟩ = some (.int .i64 s.steps) := h.cell 6
  have c2 : W.cell? ⟨g, 2, none⟩ = some (.slice p.B p.xs.length p.e) := h.cell 2
  have f5 := h.blk.frozen 5
  have f6 := h.blk.frozen 6
  rw [ho] at c10
  have hft := hf.top
  have e1 : IntKind.i64.wrap ((s.fuel : Int) - 1) = ((s.fuel - 1 : Nat) : Int) := by rw [IntWalk.i64_in _ (by omega)]; omega
  have e2 : IntKind.i64.wrap ((s.steps : Int) + 1) = (s.steps : Int) + 1 := IntWalk.i64_in _ (by omega)
  have e3 : ¬ (s.fuel : Int) = 0 := by omega
  have hkx := (List.getElem?_eq_some_iff.1 hx).1
  have i1 : (k : Int) < (p.xs.length : Int) := by omega
  have i2 : (0 : Int) ≤ (k : Int) := by omega
  have hlx := hE.lx
  have h2 := (h.fuel (n := ((s.fuel - 1 : Nat) : Int)) rfl).steps (n := (s.steps : Int) + 1) (m := s.steps + 1) (by omega)
  have hg1 : κ g ≠ 0 := by rw [h.lab.g]; decide
  have hgb := h.glt
  have hw2 := ((Went.refl κ W).setCell (a := ⟨g, 5, none⟩) (.inl hg1) (.int .i64 ((s.fuel - 1 : Nat) : Int))).setCell (a := ⟨g, 6, none⟩) (.inl hg1) (.int .i64 ((s.steps : Int) + 1))
  have hE2 := hE.went h hw2
  obtain ⟨ad, hB, hbk, d0, d1⟩ := hE2.body k (t, N) hx
  simp only at d0 d1
  have b3 := Blk.new ((W.setCell ⟨g, 5, none⟩ (.int .i64 ((s.fuel - 1 : Nat) : Int))).setCell ⟨g, 6, none⟩ (.int .i64 ((s.steps : Int) + 1))) 39 #[.int .i64 t, .int .i64 N]
  have hb3 := (Below.refl ((W.setCell ⟨g, 5, none⟩ (.int .i64 ((s.fuel - 1 : Nat) : Int))).setCell ⟨g, 6, none⟩ (.int .i64 ((s.steps : Int) + 1))).heap.size ((W.setCell ⟨g, 5, none⟩ (.int .i64 ((s.fuel - 1 : Nat) : Int))).setCell ⟨g, 6, none⟩ (.int .i64 ((s.steps : Int) + 1)))).alloc (Nat.le_refl _) (.cells #[.int .i64 t, .int .i64 N] 39)
  have h3 := h2.below hb3
  have hw3 := hw2.below hb3
  have hE3 := hE.went h hw3
  simp only [World.size_setCell] at b3
  have HK := Lib.hid (fun W1 (hE1 : EIn base p W1) => ref_Kids_any p.B p.e p.xs (k : Int) W1 (nodes_wide hE1.body hE1.size) hlx)
  rw [hB] at c2 HK
  have HX := Lib.hid hE3
  have HH := Lib.hid h3
  have HW := Lib.hid hw3
  have HLT := Lib.hid h.lab.lt
  clear h hE h2 hw2 hE2 h3 hw3 hE3 hb3
  rw [hk] at HK
  have HC := Lib.hid hc
  obtain ⟨s1, a⟩ := r
  simp only at hso
  clear hc
  have hn5 : ¬ κ W.heap.size ≠ 0 := fun z => by have := (HLT.out _ z).2; omega
  subst ht
  obtain ⟨s2, b⟩ := r2
  obtain ⟨s3, c⟩ := r3
  simp only at hc2 hc3 ⊢
  by_cases ha : a = 1
  · subst ha
    have HC2 := Lib.hid (hc2 rfl)
    have HC3 := Lib.hid (hc3 rfl)
    clear hc2 hc3
    rw [if_pos rfl]
    go_enter Try.func23, Try.ntmps23
    go_wp2_with (first
      | (go_at_call 38; refine (HK.out _ HX.out).mono ?_; rintro e w1 ⟨hb1, v, rfl, hO⟩; have x0 := (b3.below hb1 b3.lt).cell 0; have x1 := (b3.below hb1 b3.lt).cell 1; obtain ⟨bk, ck, rfl, -⟩ := own_block hO (by simp); have k0 := own_read (m := 0) hO rfl; have h4 : SM T base g κ p vv av evv Y s.tick w1 := HH.out.below hb1; have hE4 := HX.out.went HH.out ((Went.refl κ _).below hb1))
      | (go_at_call 23; (with_reducible refine (HC.out _ _ _ _ h4 hE4).mono ?_); rintro e w2 ⟨rfl, κ2, evv2, Y2, h5, hw5⟩; have b5 := (b3.below hb1 b3.lt).kept hw5.kept hn5; have z0 := b5.cell 0; have z1 := b5.cell 1; have o10 : w2.cell? ⟨g, 10, none⟩ = some (.bool s1.over) := h5.cell 10; rw [hso] at o10; have hO2 := own_of_block hO (fun i e => hw5.kept.block i (hO.lt i e).2 (fun z => by have q1 := (HLT.out i z).2; have q2 := (hO.lt i e).1; simp only [World.size_alloc, World.size_setCell] at q2; omega)); have hE5 := hE4.went h4 hw5; have k1 := own_read (m := 1) hO2 rfl)
      | (go_at_call 23; (with_reducible refine (HC2.out _ _ _ _ h5 hE5).mono ?_); rintro e w3 ⟨rfl, κ3, evv3, Y3, h6, hw6⟩; have hE6 := hE5.went h5 hw6)
      | (go_at_call 23; (with_reducible refine (HC3.out _ _ _ _ h6 hE6).mono ?_); rintro e w4 ⟨rfl, κ4, evv4, Y4, h7, hw7⟩))
    go_ret
    exact ⟨rfl, κ4, evv4, Y4, h7, (((HW.out.below hb1).trans hw5).trans hw6).trans hw7⟩
  · rw [if_neg ha]
    clear hc2 hc3
    go_enter Try.func23, Try.ntmps23
    go_wp2_with (first
      | (go_at_call 38; refine (HK.out _ HX.out).mono ?_; rintro e w1 ⟨hb1, v, rfl, hO⟩; have x0 := (b3.below hb1 b3.lt).cell 0; have x1 := (b3.below hb1 b3.lt).cell 1; obtain ⟨bk, ck, rfl, -⟩ := own_block hO (by simp); have k0 := own_read (m := 0) hO rfl; have h4 : SM T base g κ p vv av evv Y s.tick w1 := HH.out.below hb1; have hE4 := HX.out.went HH.out ((Went.refl κ _).below hb1))
      | (go_at_call 23; (with_reducible refine (HC.out _ _ _ _ h4 hE4).mono ?_); rintro e w2 ⟨rfl, κ2, evv2, Y2, h5, hw5⟩; have b5 := (b3.below hb1 b3.lt).kept hw5.kept hn5; have z0 := b5.cell 0; have z1 := b5.cell 1; have o10 : w2.cell? ⟨g, 10, none⟩ = some (.bool s1.over) := h5.cell 10; rw [hso] at o10))
    go_ret
    exact ⟨rfl, κ2, evv2, Y2, h5, (HW.out.below hb1).trans hw5⟩
set_option maxRecDepth 100000 in
set_option maxHeartbeats 2000000 in
theorem enter_second (h : SM T base g κ p vv av evv Y s W) (hE : EIn base p W) (hf : Fits s) (ho : s.over = false) (h0 : s.fuel ≠ 0) {k : Nat} {t N : Int} (hx : p.xs[k]? = some (t, N)) (n1 : t ≠ 1) (n2 : t ≠ 2) (n3 : t ≠ 3) (n20 : t ≠ 20) (n26 : t ≠ 26) (n4 : t ≠ 4) (n5 : t ≠ 5) (n6 : t ≠ 6) (n18 : t ≠ 18) (n19 : t ≠ 19) (n21 : t ≠ 21) (n23 : t ≠ 23) (n24 : t ≠ 24) (n25 : t ≠ 25) {q q2 : Int} {ks : List Int} (hk : akids p.xs k = q :: q2 :: ks) {r r2 : St × Int} (hc : KidOk T base g p vv av q s.tick r) (hc2 : KidOk T base g p vv av q2 r.1 r2) (hso : r.1.over = false) (hso2 : r2.1.over = true) : Calls Try.prog 23 #[.pointer (some ⟨g, 0, none⟩), .int .i64 k] W (NEnds T base g κ p vv av (r2.1, 0) W) := by
  have c10 : W.cell? ⟨g, 10, none⟩ = some (.bool s.over) := h.cell 10
  have c5 : W.cell? ⟨g, 5, none⟩ = some (.int .i64 s.fuel) := h.cell 5
  have c6 : W.cell? ⟨g, 6, none⟩ = some (.int .i64 s.steps) := h.cell 6
  have c2 : W.cell? ⟨g, 2, none⟩ = some (.slice p.B p.xs.length p.e) := h.cell 2
  have f5 := h.blk.frozen 5
  have f6 := h.blk.frozen 6
  rw [ho] at c10
  have hft := hf.top
  have e1 : IntKind.i64.wrap ((s.fuel : Int) - 1) = ((s.fuel - 1 : Nat) : Int) := by rw [IntWalk.i64_in _ (by omega)]; omega
  have e2 : IntKind.i64.wrap ((s.steps : Int) + 1) = (s.steps : Int) + 1 := IntWalk.i64_in _ (by omega)
  have e3 : ¬ (s.fuel : Int) = 0 := by omega
  have hkx := (List.getElem?_eq_some_iff.1 hx).1
  have i1 : (k : Int) < (p.xs.length : Int) := by omega
  have i2 : (0 : Int) ≤ (k : Int) := by omega
  have hlx := hE.lx
  have h2 := (h.fuel (n := ((s.fuel - 1 : Nat) : Int)) rfl).steps (n := (s.steps : Int) + 1) (m := s.steps + 1) (by omega)
  have hg1 : κ g ≠ 0 := by rw [h.lab.g]; decide
  have hgb := h.glt
  have hw2 := ((Went.refl κ W).setCell (a := ⟨g, 5, none⟩) (.inl hg1) (.int .i64 ((s.fuel - 1 : Nat) : Int))).setCell (a := ⟨g, 6, none⟩) (.inl hg1) (.int .i64 ((s.steps : Int) + 1))
  have hE2 := hE.went h hw2
  obtain ⟨ad, hB, hbk, d0, d1⟩ := hE2.body k (t, N) hx
  simp only at d0 d1
  have b3 := Blk.new ((W.setCell ⟨g, 5, none⟩ (.int .i64 ((s.fuel - 1 : Nat) : Int))).setCell ⟨g, 6, none⟩ (.int .i64 ((s.steps : Int) + 1))) 39 #[.int .i64 t, .int .i64 N]
  have hb3 := (Below.refl ((W.setCell ⟨g, 5, none⟩ (.int .i64 ((s.fuel - 1 : Nat) : Int))).setCell ⟨g, 6, none⟩ (.int .i64 ((s.steps : Int) + 1))).heap.size ((W.setCell ⟨g, 5, none⟩ (.int .i64 ((s.fuel - 1 : Nat) : Int))).setCell ⟨g, 6, none⟩ (.int .i64 ((s.steps : Int) + 1)))).alloc (Nat.le_refl _) (.cells #[.int .i64 t, .int .i64 N] 39)
  have h3 := h2.below hb3
  have hw3 := hw2.below hb3
  have hE3 := hE.went h hw3
  simp only [World.size_setCell] at b3
  have HK := Lib.hid (fun W1 (hE1 : EIn base p W1) => ref_Kids_any p.B p.e p.xs (k : Int) W1 (nodes_wide hE1.body hE1.size) hlx)
  rw [hB] at c2 HK
  have HX := Lib.hid hE3
  have HH := Lib.hid h3
  have HW := Lib.hid hw3
  have HLT := Lib.hid h.lab.lt
  clear h hE h2 hw2 hE2 h3 hw3 hE3 hb3
  rw [hk] at HK
  have HC := Lib.hid hc
  obtain ⟨s1, a⟩ := r
  simp only at hso
  clear hc
  have hn5 : ¬ κ W.heap.size ≠ 0 := fun z => by have := (HLT.out _ z).2; omega
  have HC2 := Lib.hid hc2
  obtain ⟨s2, b⟩ := r2
  simp only at hso2 ⊢
  clear hc2
  go_enter Try.func23, Try.ntmps23
  go_wp2_with (first
    | (go_at_call 38; refine (HK.out _ HX.out).mono ?_; rintro e w1 ⟨hb1, v, rfl, hO⟩; have x0 := (b3.below hb1 b3.lt).cell 0; have x1 := (b3.below hb1 b3.lt).cell 1; obtain ⟨bk, ck, rfl, -⟩ := own_block hO (by simp); have k0 := own_read (m := 0) hO rfl; have h4 : SM T base g κ p vv av evv Y s.tick w1 := HH.out.below hb1; have hE4 := HX.out.went HH.out ((Went.refl κ _).below hb1))
    | (go_at_call 23; (with_reducible refine (HC.out _ _ _ _ h4 hE4).mono ?_); rintro e w2 ⟨rfl, κ2, evv2, Y2, h5, hw5⟩; have b5 := (b3.below hb1 b3.lt).kept hw5.kept hn5; have z0 := b5.cell 0; have z1 := b5.cell 1; have o10 : w2.cell? ⟨g, 10, none⟩ = some (.bool s1.over) := h5.cell 10; rw [hso] at o10; have hO2 := own_of_block hO (fun i e => hw5.kept.block i (hO.lt i e).2 (fun z => by have q1 := (HLT.out i z).2; have q2 := (hO.lt i e).1; simp only [World.size_alloc, World.size_setCell] at q2; omega)); have hE5 := hE4.went h4 hw5; have k1 := own_read (m := 1) hO2 rfl)
    | (go_at_call 23; (with_reducible refine (HC2.out _ _ _ _ h5 hE5).mono ?_); rintro e w3 ⟨rfl, κ3, evv3, Y3, h6, hw6⟩; have hn6 : ¬ κ2 W.heap.size ≠ 0 := fun z => (hw5.new _ z).elim hn5 (fun c => absurd (b3.below hb1 b3.lt).lt (Nat.not_lt.2 c)); have b6 := b5.kept hw6.kept hn6; have y0 := b6.cell 0; have y1 := b6.cell 1; have p10 : w3.cell? ⟨g, 10, none⟩ = some (.bool s2.over) := h6.cell 10; rw [hso2] at p10))
  go_ret
  exact ⟨rfl, κ3, evv3, Y3, h6, ((HW.out.below hb1).trans hw5).trans hw6⟩
set_option maxRecDepth 100000 in
set_option maxHeartbeats 2000000 in
theorem enter_bin (h : SM T base g κ p vv av evv Y s W) (hE : EIn base p W) (hf : Fits s) (ho : s.over = false) (h0 : s.fuel ≠ 0) {k : Nat} {t N : Int} (hx : p.xs[k]? = some (t, N)) (ht : 7 ≤ t ∧ t ≤ 17) {q q2 : Int} {ks : List Int} (hk : akids p.xs k = q :: q2 :: ks) {r r2 : St × Int} (hc : KidOk T base g p vv av q s.tick r) (hc2 : KidOk T base g p vv av q2 r.1 r2) (hso : r.1.over = false) (hso2 : r2.1.over = false) : Calls Try.prog 23 #[.pointer (some ⟨g, 0, none⟩), .int .i64 k] W (NEnds T base g κ p vv av (bin t r.2 r2.2 r2.1) W) := by
  have c10 : W.cell? ⟨g, 10, none⟩ = some (.bool s.over) := h.cell 10
  have c5 : W.cell? ⟨g, 5, none⟩ = some (.int .i64 s.fuel) := h.cell 5
  have c6 : W.cell? ⟨g, 6, none⟩ = some (.int .i64 s.steps) := h.cell 6
  have c2 : W.cell? ⟨g, 2, none⟩ = some (.slice p.B p.xs.length p.e) := h.cell 2
  have f5 := h.blk.frozen 5
  have f6 := h.blk.frozen 6
  rw [ho] at c10
  have hft := hf.top
  have e1 : IntKind.i64.wrap ((s.fuel : Int) - 1) = ((s.fuel - 1 : Nat) : Int) := by rw [IntWalk.i64_in _ (by omega)]; omega
  have e2 : IntKind.i64.wrap ((s.steps : Int) + 1) = (s.steps : Int) + 1 := IntWalk.i64_in _ (by omega)
  have e3 : ¬ (s.fuel : Int) = 0 := by omega
  have hkx := (List.getElem?_eq_some_iff.1 hx).1
  have i1 : (k : Int) < (p.xs.length : Int) := by omega
  have i2 : (0 : Int) ≤ (k : Int) := by omega
  have hlx := hE.lx
  have h2 := (h.fuel (n := ((s.fuel - 1 : Nat) : Int)) rfl).steps (n := (s.steps : Int) + 1) (m := s.steps + 1) (by omega)
  have hg1 : κ g ≠ 0 := by rw [h.lab.g]; decide
  have hgb := h.glt
  have hw2 := ((Went.refl κ W).setCell (a := ⟨g, 5, none⟩) (.inl hg1) (.int .i64 ((s.fuel - 1 : Nat) : Int))).setCell (a := ⟨g, 6, none⟩) (.inl hg1) (.int .i64 ((s.steps : Int) + 1))
  have hE2 := hE.went h hw2
  obtain ⟨ad, hB, hbk, d0, d1⟩ := hE2.body k (t, N) hx
  simp only at d0 d1
  have b3 := Blk.new ((W.setCell ⟨g, 5, none⟩ (.int .i64 ((s.fuel - 1 : Nat) : Int))).setCell ⟨g, 6, none⟩ (.int .i64 ((s.steps : Int) + 1))) 39 #[.int .i64 t, .int .i64 N]
  have hb3 := (Below.refl ((W.setCell ⟨g, 5, none⟩ (.int .i64 ((s.fuel - 1 : Nat) : Int))).setCell ⟨g, 6, none⟩ (.int .i64 ((s.steps : Int) + 1))).heap.size ((W.setCell ⟨g, 5, none⟩ (.int .i64 ((s.fuel - 1 : Nat) : Int))).setCell ⟨g, 6, none⟩ (.int .i64 ((s.steps : Int) + 1)))).alloc (Nat.le_refl _) (.cells #[.int .i64 t, .int .i64 N] 39)
  have h3 := h2.below hb3
  have hw3 := hw2.below hb3
  have hE3 := hE.went h hw3
  simp only [World.size_setCell] at b3
  have HK := Lib.hid (fun W1 (hE1 : EIn base p W1) => ref_Kids_any p.B p.e p.xs (k : Int) W1 (nodes_wide hE1.body hE1.size) hlx)
  rw [hB] at c2 HK
  have HX := Lib.hid hE3
  have HH := Lib.hid h3
  have HW := Lib.hid hw3
  have HLT := Lib.hid h.lab.lt
  clear h hE h2 hw2 hE2 h3 hw3 hE3 hb3
  rw [hk] at HK
  have HC := Lib.hid hc
  obtain ⟨s1, a⟩ := r
  simp only at hso
  clear hc
  have hn5 : ¬ κ W.heap.size ≠ 0 := fun z => by have := (HLT.out _ z).2; omega
  have HC2 := Lib.hid hc2
  obtain ⟨s2, b⟩ := r2
  simp only at hso2 ⊢
  clear hc2
  have n1 : t ≠ 1 := by omega
  have n2 : t ≠ 2 := by omega
  have n3 : t ≠ 3 := by omega
  have n20 : t ≠ 20 := by omega
  have n26 : t ≠ 26 := by omega
  have n4 : t ≠ 4 := by omega
  have n5 : t ≠ 5 := by omega
  have n6 : t ≠ 6 := by omega
  have n18 : t ≠ 18 := by omega
  have n19 : t ≠ 19 := by omega
  have n21 : t ≠ 21 := by omega
  have n22 : t ≠ 22 := by omega
  have n23 : t ≠ 23 := by omega
  have n24 : t ≠ 24 := by omega
  have n25 : t ≠ 25 := by omega
  go_enter Try.func23, Try.ntmps23
  go_wp2_with (first
    | (go_at_call 38; refine (HK.out _ HX.out).mono ?_; rintro e w1 ⟨hb1, v, rfl, hO⟩; have x0 := (b3.below hb1 b3.lt).cell 0; have x1 := (b3.below hb1 b3.lt).cell 1; obtain ⟨bk, ck, rfl, -⟩ := own_block hO (by simp); have k0 := own_read (m := 0) hO rfl; have h4 : SM T base g κ p vv av evv Y s.tick w1 := HH.out.below hb1; have hE4 := HX.out.went HH.out ((Went.refl κ _).below hb1))
    | (go_at_call 23; (with_reducible refine (HC.out _ _ _ _ h4 hE4).mono ?_); rintro e w2 ⟨rfl, κ2, evv2, Y2, h5, hw5⟩; have b5 := (b3.below hb1 b3.lt).kept hw5.kept hn5; have z0 := b5.cell 0; have z1 := b5.cell 1; have o10 : w2.cell? ⟨g, 10, none⟩ = some (.bool s1.over) := h5.cell 10; rw [hso] at o10; have hO2 := own_of_block hO (fun i e => hw5.kept.block i (hO.lt i e).2 (fun z => by have q1 := (HLT.out i z).2; have q2 := (hO.lt i e).1; simp only [World.size_alloc, World.size_setCell] at q2; omega)); have hE5 := hE4.went h4 hw5; have k1 := own_read (m := 1) hO2 rfl)
    | (go_at_call 23; (with_reducible refine (HC2.out _ _ _ _ h5 hE5).mono ?_); rintro e w3 ⟨rfl, κ3, evv3, Y3, h6, hw6⟩; have hn6 : ¬ κ2 W.heap.size ≠ 0 := fun z => (hw5.new _ z).elim hn5 (fun c => absurd (b3.below hb1 b3.lt).lt (Nat.not_lt.2 c)); have b6 := b5.kept hw6.kept hn6; have y0 := b6.cell 0; have y1 := b6.cell 1; have p10 : w3.cell? ⟨g, 10, none⟩ = some (.bool s2.over) := h6.cell 10; rw [hso2] at p10; have HB := Lib.hid (ref_bin h6 t a b ht))
    | (go_at_call 40; (with_reducible refine HB.out.mono ?_); rintro e w4 ⟨rfl, κ4, evv4, Y4, h7, hw7⟩))
  go_ret
  exact ⟨rfl, κ4, evv4, Y4, h7, (((HW.out.below hb1).trans hw5).trans hw6).trans hw7⟩
end
end Go.Proofs.Ytodejloonfkkmaa.Mach

set_option linter.unusedVariables false
set_option linter.unusedSimpArgs false
namespace Go.Proofs.Ytodejloonfkkmaa.Mach
open Go.RowKit Mem _root_.Go.Proofs.Ytodejloonfkkmaa.Arena _root_.Go.Proofs.Ytodejloonfkkmaa.Kinds _root_.Go.Proofs.Ytodejloonfkkmaa.Path _root_.Go.Proofs.Ytodejloonfkkmaa.Cat _root_.Go.Proofs.Ytodejloonfkkmaa.Suite
attribute [local go_sem ↓] Go.wp_at_zero Go.wp_at_succ
section
variable {T : TypeId} {base g : Nat} {κ κ' : Nat → Nat} {p : Prg} {vv av evv : Value} {Y : List ((Option Addr × Nat) × List Int)} {s : St} {W W' : World}
set_option maxRecDepth 100000 in
set_option maxHeartbeats 2000000 in
theorem enter_block (h : SM T base g κ p vv av evv Y s W) (hE : EIn base p W) (hf : Fits s) (ho : s.over = false) (h0 : s.fuel ≠ 0) {k : Nat} {t N : Int} (hx : p.xs[k]? = some (t, N)) (ht : t = 20) (hkn : (akids p.xs k).length ≤ 1000000) (st : Nat → St) (hst : st 0 = s.tick) (hstep : ∀ j q, (akids p.xs k)[j]? = some q → ∃ v, KidOk T base g p vv av q (st j) (st (j + 1), v)) : Calls Try.prog 23 #[.pointer (some ⟨g, 0, none⟩), .int .i64 k] W (NEnds T base g κ p vv av (st (akids p.xs k).length, 0) W) := by
  have c10 : W.cell? ⟨g, 10, none⟩ = some (.bool s.over) := h.cell 10
  have c5 : W.cell? ⟨g, 5, none⟩ = some (.int .i64 s.fuel) := h.cell 5
  have c6 : W.cell? ⟨g, 6, none⟩ = some (.int .i64 s.steps) := h.cell 6
  have c2 : W.cell? ⟨g, 2, none⟩ = some (.slice p.B p.xs.length p.e) := h.cell 2
  have f5 := h.blk.frozen 5
  have f6 := h.blk.frozen 6
  rw [ho] at c10
  have hft := hf.top
  have e1 : IntKind.i64.wrap ((s.fuel : Int) - 1) = ((s.fuel - 1 : Nat) : Int) := by rw [IntWalk.i64_in _ (by omega)]; omega
  have e2 : IntKind.i64.wrap ((s.steps : Int) + 1) = (s.steps : Int) + 1 := IntWalk.i64_in _ (by omega)
  have e3 : ¬ (s.fuel : Int) = 0 := by omega
  have hkx := (List.getElem?_eq_some_iff.1 hx).1
  have i1 : (k : Int) < (p.xs.length : Int) := by omega
  have i2 : (0 : Int) ≤ (k : Int) := by omega
  have hlx := hE.lx
  have h2 := (h.fuel (n := ((s.fuel - 1 : Nat) : Int)) rfl).steps (n := (s.steps : Int) + 1) (m := s.steps + 1) (by omega)
  have hg1 : κ g ≠ 0 := by rw [h.lab.g]; decide
  have hgb := h.glt
  have hw2 := ((Went.refl κ W).setCell (a := ⟨g, 5, none⟩) (.inl hg1) (.int .i64 ((s.fuel - 1 : Nat) : Int))).setCell (a := ⟨g, 6, none⟩) (.inl hg1) (.int .i64 ((s.steps : Int) + 1))
  have hE2 := hE.went h hw2
  obtain ⟨ad, hB, hbk, d0, d1⟩ := hE2.body k (t, N) hx
  simp only at d0 d1
  have b3 := Blk.new ((W.setCell ⟨g, 5, none⟩ (.int .i64 ((s.fuel - 1 : Nat) : Int))).setCell ⟨g, 6, none⟩ (.int .i64 ((s.steps : Int) + 1))) 39 #[.int .i64 t, .int .i64 N]
  have hb3 := (Below.refl ((W.setCell ⟨g, 5, none⟩ (.int .i64 ((s.fuel - 1 : Nat) : Int))).setCell ⟨g, 6, none⟩ (.int .i64 ((s.steps : Int) + 1))).heap.size ((W.setCell ⟨g, 5, none⟩ (.int .i64 ((s.fuel - 1 : Nat) : Int))).setCell ⟨g, 6, none⟩ (.int .i64 ((s.steps : Int) + 1)))).alloc (Nat.le_refl _) (.cells #[.int .i64 t, .int .i64 N] 39)
  have h3 := h2.below hb3
  have hw3 := hw2.below hb3
  have hE3 := hE.went h hw3
  simp only [World.size_setCell] at b3
  have HK := Lib.hid (fun W1 (hE1 : EIn base p W1) => ref_Kids_any p.B p.e p.xs (k : Int) W1 (nodes_wide hE1.body hE1.size) hlx)
  rw [hB] at c2 HK
  have HX := Lib.hid hE3
  have HH := Lib.hid h3
  have HW := Lib.hid hw3
  have HLT := Lib.hid h.lab.lt
  clear h hE h2 hw2 hE2 h3 hw3 hE3 hb3
  subst ht
  generalize akids p.xs k = ks at *
  have HC := Lib.hid hstep
  have hST := Lib.hid hst
  clear hstep hst
  go_enter Try.func23, Try.ntmps23
  go_wp2_with (go_at_call 38; refine (HK.out _ HX.out).mono ?_; rintro e w1 ⟨hb1, v, rfl, hO⟩; have x0 := (b3.below hb1 b3.lt).cell 0; have x1 := (b3.below hb1 b3.lt).cell 1; have h4 : SM T base g κ p vv av evv Y s.tick w1 := HH.out.below hb1; have hE4 := HX.out.went HH.out ((Went.refl κ _).below hb1); have hW4 := HW.out.below hb1; obtain ⟨A, cap, rfl⟩ := Wire.owns_form hO)
  go_loopw [7] (fun i wr => ∃ j : Nat, j ≤ ks.length ∧ i = .int .i64 j ∧ ∃ κ' evv' Y', SM T base g κ' p vv av evv' Y' (st j) wr ∧ Went κ κ' w1 wr) (fun i _ => ks.length - (intOf i).toNat)
  case atStart => exact ⟨0, by omega, rfl, κ, evv, Y, by rw [hST.out]; exact h4, Went.refl _ _⟩
  case round =>
    obtain ⟨j, hj, rfl, κ2, evv2, Y2, h5, hw5⟩ := hrel
    have hO2 := own_of_block hO (fun i e => hw5.kept.block i (hO.lt i e).2 (fun z => by have q1 := (HLT.out i z).2; have q2 := (hO.lt i e).1; simp only [World.size_alloc, World.size_setCell] at q2; omega))
    have hE5 := hE4.went h4 hw5
    by_cases hlt : j < ks.length
    · obtain ⟨q, hq⟩ : ∃ q, ks[j]? = some q := ⟨_, List.getElem?_eq_getElem hlt⟩
      obtain ⟨v, hc⟩ := HC.out j q hq
      have HCC := Lib.hid (hc _ _ _ _ h5 hE5)
      obtain ⟨A', c', e, hI, -⟩ := own_ints hO2
      cases e
      obtain ⟨ad, rfl, -, k1⟩ := hI j q hq
      have i3 : (j : Int) < (ks.length : Int) := by omega
      have i4 : (0 : Int) ≤ (j : Int) := by omega
      have i5 : IntKind.i64.wrap ((j : Int) + 1) = (j : Int) + 1 := IntWalk.i64_in _ (by omega)
      clear hq hc hI
      go_wp2_with (go_at_call 23; (with_reducible refine HCC.out.mono ?_); rintro e w2 ⟨rfl, κ3, evv3, Y3, h6, hw6⟩)
      go_roundw
      case rel => exact ⟨j + 1, by omega, by go_num, κ3, evv3, Y3, h6, hw5.trans hw6⟩
      case measure => simp [intOf]; omega
    · obtain rfl : j = ks.length := by omega
      have i3 : ¬ (ks.length : Int) < (ks.length : Int) := by omega
      go_wp2_with fail
      go_ret
      exact ⟨rfl, κ2, evv2, Y2, h5, hW4.trans hw5⟩
end
end Go.Proofs.Ytodejloonfkkmaa.Mach

set_option linter.unusedVariables false
set_option linter.unusedSimpArgs false
namespace Go.Proofs.Ytodejloonfkkmaa.Mach
open Go.RowKit Mem _root_.Go.Proofs.Ytodejloonfkkmaa.Arena _root_.Go.Proofs.Ytodejloonfkkmaa.Kinds _root_.Go.Proofs.Ytodejloonfkkmaa.Path _root_.Go.Proofs.Ytodejloonfkkmaa.Cat _root_.Go.Proofs.Ytodejloonfkkmaa.Suite
theorem trow_read {w : World} {base b n cap m : Nat} {Y : List ((Option Addr × Nat) × List Int)} {y : (Option Addr × Nat) × List Int} (h : w.ownsRow base 22 1 (.slice (some ⟨b, 0, none⟩) n cap) Y.length (tcells Y)) (hm : Y[m]? = some y) : w.cell? ⟨b, m, none⟩ = some (.slice y.1.1 y.2.length y.1.2) := by
  have := h.cells (g := b) rfl m (.slice y.1.1 y.2.length y.1.2) (by unfold tcells; rw [List.getElem?_map, hm]; rfl)
  rw [show (⟨b, m, none⟩ : Addr) = Addr.add ⟨b, 0, none⟩ m by unfold Addr.add; split <;> simp_all]
  exact this
attribute [local go_sem ↓] Go.wp_at_zero Go.wp_at_succ
section
variable {T : TypeId} {base g : Nat} {κ κ' : Nat → Nat} {p : Prg} {vv av evv : Value} {Y : List ((Option Addr × Nat) × List Int)} {s : St} {W W' : World}
theorem SM.drewN (h : SM T base g κ p vv av evv Y s W) (n : Nat) : SM T base g κ p vv av evv Y s (W.drewN n) := h.move (Nat.le_refl _) fun _ _ => rfl
theorem Went.drewN (h : Went κ κ' W W') (n : Nat) : Went κ κ' W (W'.drewN n) := ⟨⟨h.kept.os, h.kept.tape, h.kept.output, h.kept.size, h.kept.block⟩, h.new⟩
theorem SM.yrow (h : SM T base g κ p vv av evv Y s W) {m : Nat} {L : List Int} (hL : s.arrs[m]? = some L) : ∃ y, Y[m]? = some y ∧ y.2 = L := by
  rw [← h.hY, List.getElem?_map] at hL
  cases q : Y[m]? with
  | none => rw [q] at hL; cases hL
  | some y => rw [q] at hL; exact ⟨y, rfl, Option.some.inj hL⟩
theorem SM.ylen (h : SM T base g κ p vv av evv Y s W) : s.arrs.length = Y.length := by rw [← h.hY, List.length_map]
set_option maxRecDepth 100000 in
set_option maxHeartbeats 2000000 in
theorem enter_set (h : SM T base g κ p vv av evv Y s W) (hE : EIn base p W) (hf : Fits s) (ho : s.over = false) (h0 : s.fuel ≠ 0) {k : Nat} {t N : Int} (hx : p.xs[k]? = some (t, N)) (ht : t = 21) {q : Int} {ks : List Int} (hk : akids p.xs k = q :: ks) {r : St × Int} (hc : KidOk T base g p vv av q s.tick r) (hso : r.1.over = false) {m : Nat} (hN : N = m) (hm : m < r.1.vals.length) (hev : r.1.ev.length < 100000000) : Calls Try.prog 23 #[.pointer (some ⟨g, 0, none⟩), .int .i64 k] W (NEnds T base g κ p vv av (setV N r.2 r.1) W) := by
  have c10 : W.cell? ⟨g, 10, none⟩ = some (.bool s.over) := h.cell 10
  have c5 : W.cell? ⟨g, 5, none⟩ = some (.int .i64 s.fuel) := h.cell 5
  have c6 : W.cell? ⟨g, 6, none⟩ = some (.int .i64 s.steps) := h.cell 6
  have c2 : W.cell? ⟨g, 2, none⟩ = some (.slice p.B p.xs.length p.e) := h.cell 2
  have f5 := h.blk.frozen 5
  have f6 := h.blk.frozen 6
  rw [ho] at c10
  have hft := hf.top
  have e1 : IntKind.i64.wrap ((s.fuel : Int) - 1) = ((s.fuel - 1 : Nat) : Int) := by rw [IntWalk.i64_in _ (by omega)]; omega
  have e2 : IntKind.i64.wrap ((s.steps : Int) + 1) = (s.steps : Int) + 1 := IntWalk.i64_in _ (by omega)
  have e3 : ¬ (s.fuel : Int) = 0 := by omega
  have hkx := (List.getElem?_eq_some_iff.1 hx).1
  have i1 : (k : Int) < (p.xs.length : Int) := by omega
  have i2 : (0 : Int) ≤ (k : Int) := by omega
  have hlx := hE.lx
  have h2 := (h.fuel (n := ((s.fuel - 1 : Nat) : Int)) rfl).steps (n := (s.steps : Int) + 1) (m := s.steps + 1) (by omega)
  have hg1 : κ g ≠ 0 := by rw [h.lab.g]; decide
  have hgb := h.glt
  have hw2 := ((Went.refl κ W).setCell (a := ⟨g, 5, none⟩) (.inl hg1) (.int .i64 ((s.fuel - 1 : Nat) : Int))).setCell (a := ⟨g, 6, none⟩) (.inl hg1) (.int .i64 ((s.steps : Int) + 1))
  have hE2 := hE.went h hw2
  obtain ⟨ad, hB, hbk, d0, d1⟩ := hE2.body k (t, N) hx
  simp only at d0 d1
  have b3 := Blk.new ((W.setCell ⟨g, 5, none⟩ (.int .i64 ((s.fuel - 1 : Nat) : Int))).setCell ⟨g, 6, none⟩ (.int .i64 ((s.steps : Int) + 1))) 39 #[.int .i64 t, .int .i64 N]
  have hb3 := (Below.refl ((W.setCell ⟨g, 5, none⟩ (.int .i64 ((s.fuel - 1 : Nat) : Int))).setCell ⟨g, 6, none⟩ (.int .i64 ((s.steps : Int) + 1))).heap.size ((W.setCell ⟨g, 5, none⟩ (.int .i64 ((s.fuel - 1 : Nat) : Int))).setCell ⟨g, 6, none⟩ (.int .i64 ((s.steps : Int) + 1)))).alloc (Nat.le_refl _) (.cells #[.int .i64 t, .int .i64 N] 39)
  have h3 := h2.below hb3
  have hw3 := hw2.below hb3
  have hE3 := hE.went h hw3
  simp only [World.size_setCell] at b3
  have HK := Lib.hid (fun W1 (hE1 : EIn base p W1) => ref_Kids_any p.B p.e p.xs (k : Int) W1 (nodes_wide hE1.body hE1.size) hlx)
  rw [hB] at c2 HK
  have HX := Lib.hid hE3
  have HH := Lib.hid h3
  have HW := Lib.hid hw3
  have HLT := Lib.hid h.lab.lt
  clear h hE h2 hw2 hE2 h3 hw3 hE3 hb3
  rw [hk] at HK
  have HC := Lib.hid hc
  obtain ⟨s1, a⟩ := r
  simp only at hso
  clear hc
  have hn5 : ¬ κ W.heap.size ≠ 0 := fun z => by have := (HLT.out _ z).2; omega
  subst ht hN
  simp only at hm hev
  have m2 : (0 : Int) ≤ (m : Int) := by omega
  go_enter Try.func23, Try.ntmps23
  go_wp2_with (first
    | (go_at_call 38; refine (HK.out _ HX.out).mono ?_; rintro e w1 ⟨hb1, v, rfl, hO⟩; have x0 := (b3.below hb1 b3.lt).cell 0; have x1 := (b3.below hb1 b3.lt).cell 1; obtain ⟨bk, ck, rfl, -⟩ := own_block hO (by simp); have k0 := own_read (m := 0) hO rfl; have h4 : SM T base g κ p vv av evv Y s.tick w1 := HH.out.below hb1; have hE4 := HX.out.went HH.out ((Went.refl κ _).below hb1))
    | (go_at_call 23; (with_reducible refine (HC.out _ _ _ _ h4 hE4).mono ?_); rintro e w2 ⟨rfl, κ2, evv2, Y2, h5, hw5⟩; have b5 := (b3.below hb1 b3.lt).kept hw5.kept hn5; have z0 := b5.cell 0; have z1 := b5.cell 1; have o10 : w2.cell? ⟨g, 10, none⟩ = some (.bool s1.over) := h5.cell 10; rw [hso] at o10))
  obtain ⟨b, cap, rfl, hvb⟩ := own_block h5.vr (by omega)
  have m1 : (m : Int) < (s1.vals.length : Int) := by omega
  have y3 : w2.cell? ⟨g, 3, none⟩ = some (.slice (some ⟨b, 0, none⟩) s1.vals.length cap) := h5.cell 3
  have fz := h5.vr.frozenAt m
  obtain ⟨z, hz⟩ : ∃ z, s1.vals[m]? = some z := ⟨_, List.getElem?_eq_getElem hm⟩
  have y4 := own_read h5.vr hz
  clear hz
  go_region
  have h6 := (h5.set_v hvb hm a).drew
  have hbl : κ2 b ≠ 0 := by rw [h5.lab.v b hvb]; decide
  have hw6 := ((HW.out.below hb1).trans hw5).trans (((Went.refl κ2 w2).setCell (a := ⟨b, m, none⟩) (.inl hbl) (.int .i64 a)).drew)
  have hbs : base ≤ (w2.setCell ⟨b, m, none⟩ (.int .i64 a)).drew.heap.size := by have := h6.glt; omega
  have HS := Lib.hid (ref_store h6 (by exact hev) hbs (m : Int) (-1) a)
  have hn6 : ¬ κ2 W.heap.size ≠ 0 := fun z => (hw5.new _ z).elim hn5 (fun c => absurd (b3.below hb1 b3.lt).lt (Nat.not_lt.2 c))
  have b6 := b5.apart (p := ⟨b, m, none⟩) (by first | exact fun e => hn6 (e ▸ hbl) | exact fun e => hn6 (e.symm ▸ hbl)) (.int .i64 a)
  have b7 := b6.below ((Below.refl _ _).drew) b6.lt
  have w0 := b7.cell 0
  have w1' := b7.cell 1
  clear b6 b7 h6 y3 y4 fz z0 z1
  go_wp2_with (first
    | (go_at_call 39; (with_reducible refine HS.out.mono ?_); rintro e w5 ⟨rfl, κ4, evv4, h7, hw7⟩)
    | fail)
  go_ret
  exact ⟨rfl, κ4, evv4, _, h7, hw6.trans hw7⟩
set_option maxRecDepth 100000 in
set_option maxHeartbeats 2000000 in
theorem enter_at (h : SM T base g κ p vv av evv Y s W) (hE : EIn base p W) (hf : Fits s) (ho : s.over = false) (h0 : s.fuel ≠ 0) {k : Nat} {t N : Int} (hx : p.xs[k]? = some (t, N)) (ht : t = 4) {q : Int} {ks : List Int} (hk : akids p.xs k = q :: ks) {r : St × Int} (hc : KidOk T base g p vv av q s.tick r) (hso : r.1.over = false) {m : Nat} (hN : N = m) {L : List Int} (har : r.1.arrs[m]? = some L) : Calls Try.prog 23 #[.pointer (some ⟨g, 0, none⟩), .int .i64 k] W (NEnds T base g κ p vv av (getA N r.2 r.1) W) := by
  have c10 : W.cell? ⟨g, 10, none⟩ = some (.bool s.over) := h.cell 10
  have c5 : W.cell? ⟨g, 5, none⟩ = some (.int .i64 s.fuel) := h.cell 5
  have c6 : W.cell? ⟨g, 6, none⟩ = some (.int .i64 s.steps) := h.cell 6
  have c2 : W.cell? ⟨g, 2, none⟩ = some (.slice p.B p.xs.length p.e) := h.cell 2
  have f5 := h.blk.frozen 5
  have f6 := h.blk.frozen 6
  rw [ho] at c10
  have hft := hf.top
  have e1 : IntKind.i64.wrap ((s.fuel : Int) - 1) = ((s.fuel - 1 : Nat) : Int) := by rw [IntWalk.i64_in _ (by omega)]; omega
  have e2 : IntKind.i64.wrap ((s.steps : Int) + 1) = (s.steps : Int) + 1 := IntWalk.i64_in _ (by omega)
  have e3 : ¬ (s.fuel : Int) = 0 := by omega
  have hkx := (List.getElem?_eq_some_iff.1 hx).1
  have i1 : (k : Int) < (p.xs.length : Int) := by omega
  have i2 : (0 : Int) ≤ (k : Int) := by omega
  have hlx := hE.lx
  have h2 := (h.fuel (n := ((s.fuel - 1 : Nat) : Int)) rfl).steps (n := (s.steps : Int) + 1) (m := s.steps + 1) (by omega)
  have hg1 : κ g ≠ 0 := by rw [h.lab.g]; decide
  have hgb := h.glt
  have hw2 := ((Went.refl κ W).setCell (a := ⟨g, 5, none⟩) (.inl hg1) (.int .i64 ((s.fuel - 1 : Nat) : Int))).setCell (a := ⟨g, 6, none⟩) (.inl hg1) (.int .i64 ((s.steps : Int) + 1))
  have hE2 := hE.went h hw2
  obtain ⟨ad, hB, hbk, d0, d1⟩ := hE2.body k (t, N) hx
  simp only at d0 d1
  have b3 := Blk.new ((W.setCell ⟨g, 5, none⟩ (.int .i64 ((s.fuel - 1 : Nat) : Int))).setCell ⟨g, 6, none⟩ (.int .i64 ((s.steps : Int) + 1))) 39 #[.int .i64 t, .int .i64 N]
  have hb3 := (Below.refl ((W.setCell ⟨g, 5, none⟩ (.int .i64 ((s.fuel - 1 : Nat) : Int))).setCell ⟨g, 6, none⟩ (.int .i64 ((s.steps : Int) + 1))).heap.size ((W.setCell ⟨g, 5, none⟩ (.int .i64 ((s.fuel - 1 : Nat) : Int))).setCell ⟨g, 6, none⟩ (.int .i64 ((s.steps : Int) + 1)))).alloc (Nat.le_refl _) (.cells #[.int .i64 t, .int .i64 N] 39)
  have h3 := h2.below hb3
  have hw3 := hw2.below hb3
  have hE3 := hE.went h hw3
  simp only [World.size_setCell] at b3
  have HK := Lib.hid (fun W1 (hE1 : EIn base p W1) => ref_Kids_any p.B p.e p.xs (k : Int) W1 (nodes_wide hE1.body hE1.size) hlx)
  rw [hB] at c2 HK
  have HX := Lib.hid hE3
  have HH := Lib.hid h3
  have HW := Lib.hid hw3
  have HLT := Lib.hid h.lab.lt
  clear h hE h2 hw2 hE2 h3 hw3 hE3 hb3
  rw [hk] at HK
  have HC := Lib.hid hc
  obtain ⟨s1, a⟩ := r
  simp only at hso
  clear hc
  have hn5 : ¬ κ W.heap.size ≠ 0 := fun z => by have := (HLT.out _ z).2; omega
  subst ht hN
  simp only at har
  have m2 : (0 : Int) ≤ (m : Int) := by omega
  have HG : Hid (getA m a s1 = if a < 0 ∨ (L.length : Int) ≤ a then (s1.stop 2 0, 0) else (s1, L.getD a.toNat 0)) := Lib.hid (by unfold getA arr; rw [Int.toNat_natCast, List.getD_eq_getElem?_getD (l := s1.arrs), har]; rfl)
  go_enter Try.func23, Try.ntmps23
  go_wp2_with (first
    | (go_at_call 38; refine (HK.out _ HX.out).mono ?_; rintro e w1 ⟨hb1, v, rfl, hO⟩; have x0 := (b3.below hb1 b3.lt).cell 0; have x1 := (b3.below hb1 b3.lt).cell 1; obtain ⟨bk, ck, rfl, -⟩ := own_block hO (by simp); have k0 := own_read (m := 0) hO rfl; have h4 : SM T base g κ p vv av evv Y s.tick w1 := HH.out.below hb1; have hE4 := HX.out.went HH.out ((Went.refl κ _).below hb1))
    | (go_at_call 23; (with_reducible refine (HC.out _ _ _ _ h4 hE4).mono ?_); rintro e w2 ⟨rfl, κ2, evv2, Y2, h5, hw5⟩; have b5 := (b3.below hb1 b3.lt).kept hw5.kept hn5; have z0 := b5.cell 0; have z1 := b5.cell 1; have o10 : w2.cell? ⟨g, 10, none⟩ = some (.bool s1.over) := h5.cell 10; rw [hso] at o10))
  obtain ⟨⟨⟨P, pc⟩, L'⟩, hy, hyL⟩ := h5.yrow har
  simp only at hyL
  subst hyL
  have hml := (List.getElem?_eq_some_iff.1 har).1
  obtain ⟨b0, cap, rfl, hvb⟩ := own_block h5.ar (by omega)
  have m1 : (m : Int) < (s1.arrs.length : Int) := by omega
  have y3 : w2.cell? ⟨g, 4, none⟩ = some (.slice (some ⟨b0, 0, none⟩) s1.arrs.length cap) := h5.cell 4
  have hAR := h5.ar
  rw [h5.ylen] at hAR
  have y4 : w2.cell? ⟨b0, m, none⟩ = some (.slice P L'.length pc) := trow_read hAR hy
  have HS := Lib.hid (fun n => ref_stop (h5.drewN n) 2 0)
  clear hAR
  by_cases ha : a < 0
  · have HG1 : Hid (getA m a s1 = (s1.stop 2 0, 0)) := Lib.hid (by rw [HG.out, if_pos (.inl ha)])
    have hd : decide (a < 0) = true := decide_eq_true ha
    go_quiet (fail)
    go_wp2_with (first | (go_at_call 24; (with_reducible refine (HS.out _).mono ?_); rintro e w5 ⟨rfl, h7, hw7⟩) | fail)
    go_ret
    rw [HG1.out]
    exact ⟨rfl, κ2, evv2, Y2, h7, (((HW.out.below hb1).trans hw5).drewN _).trans hw7⟩
  · have hd : decide (a < 0) = false := decide_eq_false ha
    by_cases hb : (L'.length : Int) ≤ a
    · have HG1 : Hid (getA m a s1 = (s1.stop 2 0, 0)) := Lib.hid (by rw [HG.out, if_pos (.inr hb)])
      have hd2 : decide ((L'.length : Int) ≤ a) = true := decide_eq_true hb
      go_quiet (fail)
      go_wp2_with (first | (go_at_call 24; (with_reducible refine (HS.out _).mono ?_); rintro e w5 ⟨rfl, h7, hw7⟩) | fail)
      go_ret
      rw [HG1.out]
      exact ⟨rfl, κ2, evv2, Y2, h7, (((HW.out.below hb1).trans hw5).drewN _).trans hw7⟩
    · have hd2 : decide ((L'.length : Int) ≤ a) = false := decide_eq_false hb
      obtain ⟨an, rfl⟩ := Int.eq_ofNat_of_zero_le (show 0 ≤ a by omega)
      obtain ⟨z, hz⟩ : ∃ z, L'[an]? = some z := ⟨_, List.getElem?_eq_getElem (by omega)⟩
      have HG1 : Hid (getA (m : Int) (an : Int) s1 = (s1, z)) := Lib.hid (by rw [HG.out, if_neg (by omega), List.getD_eq_getElem?_getD, Int.toNat_natCast, hz]; rfl)
      obtain ⟨b1, cap1, eP, hvb1⟩ := own_block (h5.yr m _ hy) (by show 0 < L'.length; omega)
      cases eP
      have y5 := own_read (h5.yr m _ hy) hz
      have n1 : (an : Int) < (L'.length : Int) := by omega
      have n2 : (0 : Int) ≤ (an : Int) := by omega
      go_quiet (fail)
      go_wp2_with fail
      go_quiet (fail)
      go_wp2_with fail
      go_ret
      rw [HG1.out]
      exact ⟨rfl, κ2, evv2, Y2, (h5.drewN _).drewN _, (((HW.out.below hb1).trans hw5).drewN _).drewN _⟩
end
end Go.Proofs.Ytodejloonfkkmaa.Mach

set_option linter.unusedVariables false
set_option linter.unusedSimpArgs false
namespace Go.Proofs.Ytodejloonfkkmaa.Mach
open Go.RowKit Mem _root_.Go.Proofs.Ytodejloonfkkmaa.Arena _root_.Go.Proofs.Ytodejloonfkkmaa.Kinds _root_.Go.Proofs.Ytodejloonfkkmaa.Path _root_.Go.Proofs.Ytodejloonfkkmaa.Cat _root_.Go.Proofs.Ytodejloonfkkmaa.Suite
attribute [local go_sem ↓] Go.wp_at_zero Go.wp_at_succ
section
variable {T : TypeId} {base g : Nat} {κ κ' : Nat → Nat} {p : Prg} {vv av evv : Value} {Y : List ((Option Addr × Nat) × List Int)} {s : St} {W W' : World}
set_option maxRecDepth 100000 in
set_option maxHeartbeats 2000000 in
theorem enter_put (h : SM T base g κ p vv av evv Y s W) (hE : EIn base p W) (hf : Fits s) (ho : s.over = false) (h0 : s.fuel ≠ 0) {k : Nat} {t N : Int} (hx : p.xs[k]? = some (t, N)) (ht : t = 22) {q q2 : Int} {ks : List Int} (hk : akids p.xs k = q :: q2 :: ks) {r r2 : St × Int} (hc : KidOk T base g p vv av q s.tick r) (hc2 : KidOk T base g p vv av q2 r.1 r2) (hso : r.1.over = false) (hso2 : r2.1.over = false) {m : Nat} (hN : N = m) {L : List Int} (har : r2.1.arrs[m]? = some L) (hev : r2.1.ev.length < 100000000) : Calls Try.prog 23 #[.pointer (some ⟨g, 0, none⟩), .int .i64 k] W (NEnds T base g κ p vv av (setA N r.2 r2.2 r2.1) W) := by
  have c10 : W.cell? ⟨g, 10, none⟩ = some (.bool s.over) := h.cell 10
  have c5 : W.cell? ⟨g, 5, none⟩ = some (.int .i64 s.fuel) := h.cell 5
  have c6 : W.cell? ⟨g, 6, none⟩ = some (.int .i64 s.steps) := h.cell 6
  have c2 : W.cell? ⟨g, 2, none⟩ = some (.slice p.B p.xs.length p.e) := h.cell 2
  have f5 := h.blk.frozen 5
  have f6 := h.blk.frozen 6
  rw [ho] at c10
  have hft := hf.top
  have e1 : IntKind.i64.wrap ((s.fuel : Int) - 1) = ((s.fuel - 1 : Nat) : Int) := by rw [IntWalk.i64_in _ (by omega)]; omega
  have e2 : IntKind.i64.wrap ((s.steps : Int) + 1) = (s.steps : Int) + 1 := IntWalk.i64_in _ (by omega)
  have e3 : ¬ (s.fuel : Int) = 0 := by omega
  have hkx := (List.getElem?_eq_some_iff.1 hx).1
  have i1 : (k : Int) < (p.xs.length : Int) := by omega
  have i2 : (0 : Int) ≤ (k : Int) := by omega
  have hlx := hE.lx
  have h2 := (h.fuel (n := ((s.fuel - 1 : Nat) : Int)) rfl).steps (n := (s.steps : Int) + 1) (m := s.steps + 1) (by omega)
  have hg1 : κ g ≠ 0 := by rw [h.lab.g]; decide
  have hgb := h.glt
  have hw2 := ((Went.refl κ W).setCell (a := ⟨g, 5, none⟩) (.inl hg1) (.int .i64 ((s.fuel - 1 : Nat) : Int))).setCell (a := ⟨g, 6, none⟩) (.inl hg1) (.int .i64 ((s.steps : Int) + 1))
  have hE2 := hE.went h hw2
  obtain ⟨ad, hB, hbk, d0, d1⟩ := hE2.body k (t, N) hx
  simp only at d0 d1
  have b3 := Blk.new ((W.setCell ⟨g, 5, none⟩ (.int .i64 ((s.fuel - 1 : Nat) : Int))).setCell ⟨g, 6, none⟩ (.int .i64 ((s.steps : Int) + 1))) 39 #[.int .i64 t, .int .i64 N]
  have hb3 := (Below.refl ((W.setCell ⟨g, 5, none⟩ (.int .i64 ((s.fuel - 1 : Nat) : Int))).setCell ⟨g, 6, none⟩ (.int .i64 ((s.steps : Int) + 1))).heap.size ((W.setCell ⟨g, 5, none⟩ (.int .i64 ((s.fuel - 1 : Nat) : Int))).setCell ⟨g, 6, none⟩ (.int .i64 ((s.steps : Int) + 1)))).alloc (Nat.le_refl _) (.cells #[.int .i64 t, .int .i64 N] 39)
  have h3 := h2.below hb3
  have hw3 := hw2.below hb3
  have hE3 := hE.went h hw3
  simp only [World.size_setCell] at b3
  have HK := Lib.hid (fun W1 (hE1 : EIn base p W1) => ref_Kids_any p.B p.e p.xs (k : Int) W1 (nodes_wide hE1.body hE1.size) hlx)
  rw [hB] at c2 HK
  have HX := Lib.hid hE3
  have HH := Lib.hid h3
  have HW := Lib.hid hw3
  have HLT := Lib.hid h.lab.lt
  clear h hE h2 hw2 hE2 h3 hw3 hE3 hb3
  rw [hk] at HK
  have HC := Lib.hid hc
  obtain ⟨s1, a⟩ := r
  simp only at hso
  clear hc
  have hn5 : ¬ κ W.heap.size ≠ 0 := fun z => by have := (HLT.out _ z).2; omega
  have HC2 := Lib.hid hc2
  obtain ⟨s2, b⟩ := r2
  simp only at hso2 ⊢
  clear hc2
  subst ht hN
  simp only at har hev
  have m2 : (0 : Int) ≤ (m : Int) := by omega
  have HG : Hid (setA m a b s2 = if a < 0 ∨ (L.length : Int) ≤ a then (s2.stop 2 0, 0) else ({ s2 with arrs := s2.arrs.set m (L.set a.toNat b), ev := s2.ev ++ [((m : Int), a, b)] }, 0)) := Lib.hid (by unfold setA arr; rw [Int.toNat_natCast, List.getD_eq_getElem?_getD (l := s2.arrs), har]; rfl)
  go_enter Try.func23, Try.ntmps23
  go_wp2_with (first
    | (go_at_call 38; refine (HK.out _ HX.out).mono ?_; rintro e w1 ⟨hb1, v, rfl, hO⟩; have x0 := (b3.below hb1 b3.lt).cell 0; have x1 := (b3.below hb1 b3.lt).cell 1; obtain ⟨bk, ck, rfl, -⟩ := own_block hO (by simp); have k0 := own_read (m := 0) hO rfl; have h4 : SM T base g κ p vv av evv Y s.tick w1 := HH.out.below hb1; have hE4 := HX.out.went HH.out ((Went.refl κ _).below hb1))
    | (go_at_call 23; (with_reducible refine (HC.out _ _ _ _ h4 hE4).mono ?_); rintro e w2 ⟨rfl, κ2, evv2, Y2, h5, hw5⟩; have b5 := (b3.below hb1 b3.lt).kept hw5.kept hn5; have z0 := b5.cell 0; have z1 := b5.cell 1; have o10 : w2.cell? ⟨g, 10, none⟩ = some (.bool s1.over) := h5.cell 10; rw [hso] at o10; have hO2 := own_of_block hO (fun i e => hw5.kept.block i (hO.lt i e).2 (fun z => by have q1 := (HLT.out i z).2; have q2 := (hO.lt i e).1; simp only [World.size_alloc, World.size_setCell] at q2; omega)); have hE5 := hE4.went h4 hw5; have k1 := own_read (m := 1) hO2 rfl)
    | (go_at_call 23; (with_reducible refine (HC2.out _ _ _ _ h5 hE5).mono ?_); rintro e w3 ⟨rfl, κ3, evv3, Y3, h6, hw6⟩; have hn6 : ¬ κ2 W.heap.size ≠ 0 := fun z => (hw5.new _ z).elim hn5 (fun c => absurd (b3.below hb1 b3.lt).lt (Nat.not_lt.2 c)); have b6 := b5.kept hw6.kept hn6; have y0 := b6.cell 0; have y1 := b6.cell 1; have p10 : w3.cell? ⟨g, 10, none⟩ = some (.bool s2.over) := h6.cell 10; rw [hso2] at p10))
  obtain ⟨⟨⟨P, pc⟩, L'⟩, hy, hyL⟩ := h6.yrow har
  simp only at hyL
  subst hyL
  have hml := (List.getElem?_eq_some_iff.1 har).1
  obtain ⟨b0, cap, rfl, hvb⟩ := own_block h6.ar (by omega)
  have m1 : (m : Int) < (s2.arrs.length : Int) := by omega
  have y3 : w3.cell? ⟨g, 4, none⟩ = some (.slice (some ⟨b0, 0, none⟩) s2.arrs.length cap) := h6.cell 4
  have hAR := h6.ar
  rw [h6.ylen] at hAR
  have y4 : w3.cell? ⟨b0, m, none⟩ = some (.slice P L'.length pc) := trow_read hAR hy
  have HS := Lib.hid (fun n => ref_stop (h6.drewN n) 2 0)
  clear hAR
  have hwA := ((HW.out.below hb1).trans hw5).trans hw6
  by_cases ha : a < 0
  · have HG1 : Hid (setA m a b s2 = (s2.stop 2 0, 0)) := Lib.hid (by rw [HG.out, if_pos (.inl ha)])
    have hd : decide (a < 0) = true := decide_eq_true ha
    go_quiet (fail)
    go_wp2_with (first | (go_at_call 24; (with_reducible refine (HS.out _).mono ?_); rintro e w5 ⟨rfl, h7, hw7⟩) | fail)
    go_ret
    rw [HG1.out]
    exact ⟨rfl, κ3, evv3, Y3, h7, (hwA.drewN _).trans hw7⟩
  · have hd : decide (a < 0) = false := decide_eq_false ha
    by_cases hb : (L'.length : Int) ≤ a
    · have HG1 : Hid (setA m a b s2 = (s2.stop 2 0, 0)) := Lib.hid (by rw [HG.out, if_pos (.inr hb)])
      have hd2 : decide ((L'.length : Int) ≤ a) = true := decide_eq_true hb
      go_quiet (fail)
      go_wp2_with (first | (go_at_call 24; (with_reducible refine (HS.out _).mono ?_); rintro e w5 ⟨rfl, h7, hw7⟩) | fail)
      go_ret
      rw [HG1.out]
      exact ⟨rfl, κ3, evv3, Y3, h7, (hwA.drewN _).trans hw7⟩
    · have hd2 : decide ((L'.length : Int) ≤ a) = false := decide_eq_false hb
      obtain ⟨an, rfl⟩ := Int.eq_ofNat_of_zero_le (show 0 ≤ a by omega)
      obtain ⟨z, hz⟩ : ∃ z, L'[an]? = some z := ⟨_, List.getElem?_eq_getElem (by omega)⟩
      have HG1 : Hid (setA (m : Int) (an : Int) b s2 = ({ s2 with arrs := s2.arrs.set m (L'.set an b), ev := s2.ev ++ [((m : Int), (an : Int), b)] }, 0)) := Lib.hid (by rw [HG.out, if_neg (by omega), Int.toNat_natCast])
      obtain ⟨b1, cap1, eP, hvb1⟩ := own_block (h6.yr m _ hy) (by show 0 < L'.length; omega)
      cases eP
      have y5 := own_read (h6.yr m _ hy) hz
      have fz := (h6.yr m _ hy).frozenAt an
      have n1 : (an : Int) < (L'.length : Int) := by omega
      have n2 : (0 : Int) ≤ (an : Int) := by omega
      go_quiet (fail)
      go_wp2_with fail
      go_region
      have hlab : κ3 b1 = 5 + m := h6.lab.y m _ b1 hy hvb1
      have hbl : κ3 b1 ≠ 0 := by omega
      have h7 := fun n => (h6.drewN n).set_a hy hvb1 (show an < L'.length by omega) b
      have hbs := fun n => show base ≤ ((w3.drewN n).setCell ⟨b1, an, none⟩ (.int .i64 b)).heap.size by have := (h7 n).glt; omega
      have HS2 := Lib.hid (fun n => ref_store (h7 n) (by exact hev) (hbs n) (m : Int) (an : Int) b)
      have HW6 := Lib.hid (fun n => hwA.trans (((Went.refl κ3 w3).drewN n).setCell (a := ⟨b1, an, none⟩) (.inl hbl) (.int .i64 b)))
      have hn7 : ¬ κ3 W.heap.size ≠ 0 := fun z => (hw6.new _ z).elim hn6 (fun c => absurd b5.lt (Nat.not_lt.2 c))
      have hb7 := fun n => (b6.below (belowN (Below.refl w3.heap.size w3) n) b6.lt).apart (p := ⟨b1, an, none⟩) (by first | exact fun e => hn7 (e ▸ hbl) | exact fun e => hn7 (e.symm ▸ hbl)) (.int .i64 b)
      have q0 := fun n => (hb7 n).cell 0
      have q1 := fun n => (hb7 n).cell 1
      clear h7 hbs hb7 HS hd hd2 y3 y4 y5 fz
      go_wp2_with (first
        | (go_at_call 39; (with_reducible refine (HS2.out _).mono ?_); rintro e w5 ⟨rfl, κ4, evv4, h7, hw7⟩)
        | fail)
      go_ret
      rw [HG1.out]
      exact ⟨rfl, κ4, evv4, _, h7, (HW6.out _).trans hw7⟩
end
end Go.Proofs.Ytodejloonfkkmaa.Mach
