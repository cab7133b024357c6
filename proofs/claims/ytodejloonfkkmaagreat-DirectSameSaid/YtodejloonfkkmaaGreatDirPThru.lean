/-
  Package direct, walked: a program is gone through till the run ends; the end is recovered.
-/
import Derived.Test.YtodejloonfkkmaaGreatDirPStart
import Derived.Test.YtodejloonfkkmaaGreatMachK
import Derived.Recover
import Derived.Laws.Pointers
set_option linter.unusedVariables false
set_option linter.unusedSimpArgs false
namespace Go.Proofs.YtodejloonfkkmaaGreat.Dir
open Go.RowKit Mem _root_.Go.Proofs.YtodejloonfkkmaaGreat.Arena _root_.Go.Proofs.YtodejloonfkkmaaGreat.Kinds _root_.Go.Proofs.YtodejloonfkkmaaGreat.Path _root_.Go.Proofs.YtodejloonfkkmaaGreat.Cat _root_.Go.Proofs.YtodejloonfkkmaaGreat.Suite _root_.Go.Proofs.YtodejloonfkkmaaGreat.Mach
attribute [local go_sem ↓] Go.wp_at_zero Go.wp_at_succ

/-- What a panic's end leaves: how the run ended, in the struct. -/
def caught (g : Nat) (k v : Int) (w : World) : World := ((w.setCell ⟨g, 0, none⟩ (.int .i64 k)).setCell ⟨g, 1, none⟩ (.int .i64 v)).alloc (.cells #[.int .i64 k, .int .i64 v] 75)
set_option maxRecDepth 100000 in
set_option maxHeartbeats 2000000 in
theorem catch_ended (rb g : Nat) (k v x y : Int) (w : World) (hr : w.cell? ⟨rb, 0, none⟩ = some (.pointer (some ⟨g, 0, none⟩))) (h0 : w.cell? ⟨g, 0, none⟩ = some (.int .i64 x)) (h1 : w.cell? ⟨g, 1, none⟩ = some (.int .i64 y)) (hz : ∀ j, w.frozen? ⟨g, j, none⟩ = false) (hrb : rb < w.heap.size) (hg : g < w.heap.size) :
    CallsD Tryz.prog 29 #[.pointer (some ⟨rb, 0, none⟩)] (.panicking (ended k v)) w fun e u' w' =>
      e = .returned (.tuple #[]) ∧ u' = .panicking [{ v := .iface 75 (.agg #[.int .i64 k, .int .i64 v]), recovered := true }] ∧ w' = caught g k v w := by
  have ta : ∀ W, (Instr.typeAssert (.iface 75 (.agg #[.int .i64 k, .int .i64 v])) 20 75 true).run Tryz.prog W = .ok (.tuple #[.agg #[.int .i64 k, .int .i64 v], .bool true]) W := fun W => by kernel_rfl
  refine callsD_of_wpS Tryz.func29 rfl fun c₀ cs hu => ?_
  unfold ended at hu
  apply wpS_seq
  apply wpS_region
  simp [wpOpsS, go_sem, recoverD, hu, Tryz.ntmps29, Exit.thenS]
  have bX := Blk.new w 75 #[.int .i64 k, .int .i64 v]
  obtain ⟨x0, x1⟩ := bX.two
  have hb := (Below.refl w.heap.size w).alloc (Nat.le_refl _) (.cells #[.int .i64 k, .int .i64 v] 75)
  have hr' := (hb.cell (p := ⟨rb, 0, none⟩) hrb).trans hr
  have h0' := (hb.cell (p := ⟨g, 0, none⟩) hg).trans h0
  have h1' := (hb.cell (p := ⟨g, 1, none⟩) hg).trans h1
  have hz' : ∀ j, (w.alloc (.cells #[.int .i64 k, .int .i64 v] 75)).frozen? ⟨g, j, none⟩ = false := fun j => (hb.frozen (p := ⟨g, j, none⟩) hg).trans (hz j)
  have h1'' : ((w.alloc (.cells #[.int .i64 k, .int .i64 v] 75)).setCell ⟨g, 0, none⟩ (.int .i64 k)).cell? ⟨g, 1, none⟩ = some (.int .i64 y) := by
    rw [World.cell?_setCell_other _ _ _ _ (by simp)]; exact h1'
  clear bX hb
  refine wpS_of_wp ?_
  simp only [Array.replicate_succ, Array.replicate_zero, List.push_toArray, List.append_toArray, List.nil_append, List.cons_append, List.setIfInBounds_toArray, List.set_cons_zero, List.set_cons_succ]
  go_wp2_with fail
  simp [go_sem, bodyPostS, results, Tryz.results29, caught]
/-- What a run comes to: where its struct lies, how it ended, its events. -/
structure RunOutD (w2 : World) (s : St) (g : Nat) (A : Option Addr) (c : Nat) (w' : World) : Prop where
  below : Below w2.heap.size w2 w'
  g2 : w2.heap.size ≤ g
  z0 : w'.cell? ⟨g, 0, none⟩ = some (.int .i64 s.kind)
  z1 : w'.cell? ⟨g, 1, none⟩ = some (.int .i64 s.value)
  z2 : w'.cell? ⟨g, 2, none⟩ = some (.int .i64 s.steps)
  z3 : w'.cell? ⟨g, 3, none⟩ = some (.slice A s.ev.length c)
  lt : g < w'.heap.size
  row : ERow w' w'.heap.size A s.ev
  cap : s.ev.length ≤ c
  none_ : A = none → c = 0
  far : ∀ ad, A = some ad → w2.heap.size ≤ ad.block
section
variable {K : DK} {κ κ' : Nat → Nat} {evv evv' : Value} {Y Y' : List ((Option Addr × Nat) × List Int)} {s s2 : St} {pos pos' : Int} {W W' W0 w2 : World}
theorem runOutD_of (hB0 : Below W0.heap.size W0 W) (hbase : W0.heap.size ≤ K.base) (h : DM K κ evv Y s pos W) (h2 : DM K κ' evv' Y' s2 pos' w2) (hw : Went κ κ' W w2) {s6 : St} (h6 : s6.steps = s2.steps) (h7 : s6.ev = s2.ev) :
    ∃ A c, RunOutD W0 s6 K.g A c (caught K.g s6.kind s6.value w2) := by
  obtain ⟨A, c, rfl, hc, hA, hE, hlo⟩ := own_events h2.er
  have hne : ∀ ad, A = some ad → ad.block ≠ K.g := fun ad e q => by
    subst e
    have h := h2.lab.e ad.block rfl
    rw [q, h2.lab.g] at h
    cases h
  have hgl := Nat.le_trans hbase h2.glt.1
  have b2 := ((h2.blk.set 0 (.int .i64 s6.kind)).set 1 (.int .i64 s6.value)).alloc (.cells #[.int .i64 s6.kind, .int .i64 s6.value] 75)
  have hB2 : Below W0.heap.size W0 w2 := hB0.trans (hw.kept.to_below hB0.size fun k q => Nat.le_trans hbase (h.lab.lt k q).1)
  have hB3 := (hB2.setCell (p := ⟨K.g, 0, none⟩) hgl (.int .i64 s6.kind)).setCell (p := ⟨K.g, 1, none⟩) hgl (.int .i64 s6.value)
  have hE3 := ((hE.far (g := K.g) 0 (.int .i64 s6.kind) hne).far (g := K.g) 1 (.int .i64 s6.value) hne)
  have hE4 : ERow ((w2.setCell ⟨K.g, 0, none⟩ (.int .i64 s6.kind)).setCell ⟨K.g, 1, none⟩ (.int .i64 s6.value)) ((w2.setCell ⟨K.g, 0, none⟩ (.int .i64 s6.kind)).setCell ⟨K.g, 1, none⟩ (.int .i64 s6.value)).heap.size A s2.ev := by simpa using hE3
  refine ⟨A, c, hB3.alloc hB3.size _, hgl, b2.cell 0, b2.cell 1, (b2.cell 2).trans (by rw [h6]; rfl), (b2.cell 3).trans (by rw [h7]; rfl), b2.lt, by rw [h7]; exact hE4.at ((Below.refl _ _).alloc (Nat.le_refl _) _), by rw [h7]; exact hc, hA, fun ad e => Nat.le_trans hbase (hlo ad e)⟩
set_option maxRecDepth 100000 in
set_option maxHeartbeats 4000000 in
/-- A PROGRAM IS GONE THROUGH. -/
theorem through_any (hB0 : Below W0.heap.size W0 W) (hbase : W0.heap.size ≤ K.base) (h : DM K κ evv Y s 0 W) (hg : Good K s) (hall : ∀ k n : Nat, scan 1 (K.p.xs.drop k) = some n → 0 ≤ okind K.p.vs K.p.xs k) (hwh : scan 1 K.p.xs = some K.p.xs.length) (hF : K.F ≤ 10000) :
    Calls Tryz.prog 16 #[.pointer (some ⟨K.g, 0, none⟩)] W fun e W' => e = .returned (.tuple #[]) ∧ ∃ A c, RunOutD W0 ((mean K.p.xs 0 s).1.stop 3 0) K.g A c W' := by
  have hmf : ∀ (fn : Fn) (first cap : Array Value) (w : World), (Instr.makeFunc fn first cap).run Tryz.prog w = .ok (.func fn first cap) w := fun _ _ _ _ => rfl
  have hb1 := (Below.refl W.heap.size W).alloc (Nat.le_refl _) (.cells #[.pointer (some ⟨K.g, 0, none⟩)] 50)
  have bR := Blk.new W 50 #[.pointer (some ⟨K.g, 0, none⟩)]
  have cR : (W.alloc (.cells #[.pointer (some ⟨K.g, 0, none⟩)] 50)).cell? ⟨W.heap.size, 0, none⟩ = some (.pointer (some ⟨K.g, 0, none⟩)) := bR.cell 0
  have h1 := h.below hb1
  have hκ : κ W.heap.size = 0 := by
    by_cases z : κ W.heap.size = 0
    · exact z
    · have := (h.lab.lt _ z).2; omega
  have hn0 := node_any h.lx hall hF K.p.xs.length 0 K.p.xs.length s (Nat.le_refl _) (by rw [List.drop_zero]; exact hwh) hg
  have HN := Lib.hid (show NodeOk K 0 s (mean K.p.xs 0 s) ((0 + K.p.xs.length : Nat) : Int) from hn0)
  have H1 := Lib.hid h1
  have HW1 := Lib.hid ((Went.refl κ W).below hb1)
  have HO := Lib.hid (fun (κ' : Nat → Nat) (evv' : Value) (Y' : List ((Option Addr × Nat) × List Int)) (s2 s6 : St) (pos' : Int) (w2 : World) (q : DM K κ' evv' Y' s2 pos' w2) (qw : Went κ κ' W w2) (q6 : s6.steps = s2.steps) (q7 : s6.ev = s2.ev) => runOutD_of hB0 hbase h q qw q6 q7)
  have HBR := Lib.hid (fun (κ' : Nat → Nat) (w2 : World) (q : Went κ κ' (W.alloc (.cells #[.pointer (some ⟨K.g, 0, none⟩)] 50)) w2) => show Blk w2 W.heap.size 50 #[.pointer (some ⟨K.g, 0, none⟩)] from bR.kept q.kept (fun z => z hκ))
  obtain ⟨⟨s1, a⟩, hr⟩ : ∃ r, mean K.p.xs 0 s = r := ⟨_, rfl⟩
  rw [hr] at HN
  rw [hr]
  simp only
  clear h h1 hb1 bR hn0 hg hall hwh hF hB0 hbase hr hκ
  by_cases ho : s1.over = true
  · have HS := Lib.hid (show s1.stop 3 0 = s1 by unfold St.stop; rw [if_pos ho])
    go_enter_defers Tryz.func16, Tryz.ntmps16
    go_wp2_with (first
      | (go_at_call 30; (with_reducible refine (HN.out _ _ _ _ H1.out).mono ?_); rintro e w1 hE; obtain ⟨rfl, κ1, evv1, Y1, pos1, h1, hw1⟩ := hE.to_over ho)
      | fail)
    have bR := HBR.out _ _ hw1
    refine leaves_cons (f := 29) (args := #[.pointer (some ⟨W.heap.size, 0, none⟩)]) (by simp) (by simp [go_sem]) ?_
    refine (catch_ended W.heap.size K.g s1.kind s1.value 0 0 w1 (bR.cell 0) (h1.cell 0) (h1.cell 1) h1.blk.frozen bR.lt h1.glt.2).mono ?_
    rintro e u' w'' ⟨rfl, rfl, rfl⟩
    rw [HS.out]
    refine ⟨.tuple #[], ?_, rfl, HO.out κ1 evv1 Y1 s1 s1 pos1 w1 h1 (HW1.out.trans hw1) rfl rfl⟩
    simp [results, Tryz.results16, go_sem]
  · have ho : s1.over = false := by simpa using ho
    have HS := Lib.hid (show s1.stop 3 0 = { s1 with kind := 3, value := 0, over := true } from stop_no ho 3 0)
    go_enter_defers Tryz.func16, Tryz.ntmps16
    go_wp2_with (first
      | (go_at_call 30; (with_reducible refine (HN.out _ _ _ _ H1.out).mono ?_); rintro e w1 hE; obtain ⟨rfl, κ1, evv1, Y1, h1, hw1⟩ := hE.to_on ho)
      | (go_at_call 31; (with_reducible refine (without_any 3 _).mono ?_); rintro e w2 ⟨rfl, hb2⟩)
      | fail)
    have h2 := h1.below hb2
    have hw2 := hw1.below hb2
    have bR := HBR.out _ _ hw2
    refine leaves_cons (f := 29) (args := #[.pointer (some ⟨W.heap.size, 0, none⟩)]) (by simp) (by simp [go_sem]) ?_
    refine (catch_ended W.heap.size K.g 3 0 0 0 w2 (bR.cell 0) (h2.cell 0) (h2.cell 1) h2.blk.frozen bR.lt h2.glt.2).mono ?_
    rintro e u' w'' ⟨rfl, rfl, rfl⟩
    rw [HS.out]
    refine ⟨.tuple #[], ?_, rfl, HO.out κ1 evv1 Y1 s1 { s1 with kind := 3, value := 0, over := true } _ w2 h2 (HW1.out.trans hw2) rfl rfl⟩
    simp [results, Tryz.results16, go_sem]
end
end Go.Proofs.YtodejloonfkkmaaGreat.Dir
