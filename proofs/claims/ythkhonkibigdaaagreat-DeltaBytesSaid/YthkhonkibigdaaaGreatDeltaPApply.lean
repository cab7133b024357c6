/-
  Package delta, walked: a program is changed.
-/
import Derived.Test.YthkhonkibigdaaaGreatDeltaPOps3
import Derived.Test.YthkhonkibigdaaaGreatPathH
namespace Go.Proofs.YthkhonkibigdaaaGreat.Delta
open Go.RowKit Mem _root_.Go.Proofs.YthkhonkibigdaaaGreat.Arena _root_.Go.Proofs.YthkhonkibigdaaaGreat.Kinds _root_.Go.Proofs.YthkhonkibigdaaaGreat.Path
set_option linter.unusedVariables false
attribute [local go_sem ↓] Go.wp_at_zero Go.wp_at_succ

/-- Operators, by number. -/
def opsv : Value := .agg #[.nilFunc, .func (.func 67) #[] #[], .func (.func 68) #[] #[], .func (.func 69) #[] #[], .func (.func 70) #[] #[], .func (.func 71) #[] #[], .func (.func 72) #[] #[], .func (.func 73) #[] #[]]
def opf (op : Int) : FuncId := if op = 1 then 67 else if op = 2 then 68 else if op = 3 then 69 else if op = 4 then 70 else if op = 5 then 71 else if op = 6 then 72 else 73
set_option maxRecDepth 100000 in
theorem operators_any (w : World) : Calls Tryz.prog 39 #[] w fun e w' => e = .returned opsv ∧ Below w.heap.size w w' := by
  go_enter Tryz.func39, Tryz.ntmps39
  go_wp2
  exact bodyPost_ret (v := opsv) (by simp [opsv, results, Tryz.results39, go_sem]) rfl ⟨rfl, (Below.refl _ _).alloc (Nat.le_refl _) _⟩
theorem seven {op : Int} (h : inrow op 1 7 = true) : op = 1 ∨ op = 2 ∨ op = 3 ∨ op = 4 ∨ op = 5 ∨ op = 6 ∨ op = 7 := by
  unfold inrow at h
  rw [decide_eq_true_eq] at h
  omega
set_option maxRecDepth 100000 in
theorem index_ops {op : Int} (h : inrow op 1 7 = true) (W : World) : (Instr.index 75 opsv (.int .i64 op)).run Tryz.prog W = .ok (.func (.func (opf op)) #[] #[]) W := by
  rcases seven h with rfl | rfl | rfl | rfl | rfl | rfl | rfl <;> kernel_rfl
set_option maxRecDepth 100000 in
theorem enter_ops {op : Int} (h : inrow op 1 7 = true) (cs : Array Value) (W : World) : (callFunc (opf op) cs).run Tryz.prog W = .ok (.enter (opf op) cs) W := by
  rcases seven h with rfl | rfl | rfl | rfl | rfl | rfl | rfl <;> rfl
theorem opf_any {op : Int} (h : inrow op 1 7 = true) (ps : Int) (VA : Option Addr) (vl vc : Nat) (ad : Addr) (xs : List Nd) (cap a : Nat) (n : Int) (x : Nd) (m : Nat) (w : World) (hx : Nodes w w.heap.size (some ad) xs) (hl : xs.length ≤ 1000000) (hcap : xs.length ≤ cap) (hxa : xs[a]? = some x) (hs : scan 1 (xs.drop a) = some m) :
    Calls Tryz.prog (opf op) #[.agg #[.int .i64 ps, .slice VA vl vc, .slice (some ad) xs.length cap, .int .i64 a, .int .i64 n]] w (OpEnds (dmay x.1 op n) (dch xs a op n) w) := by
  rcases seven h with rfl | rfl | rfl | rfl | rfl | rfl | rfl
  · exact arith_any ps VA vl vc ad xs cap a n x w hx hl hxa
  · exact rel_any ps VA vl vc ad xs cap a n x w hx hl hxa
  · exact logic_any ps VA vl vc ad xs cap a n x w hx hl hxa
  · exact constant_any ps VA vl vc ad xs cap a n x w hx hl hxa
  · exact remove_any ps VA vl vc ad xs cap a n x m w hx hl hcap hxa hs
  · exact negate_any ps VA vl vc ad xs cap a n x m w hx hl hxa hs
  · exact giveBack_any ps VA vl vc ad xs cap a n x m w hx hl hcap hxa hs
theorem no_op {op : Int} (h : inrow op 1 7 = false) (t n : Int) : dmay t op n = false := by
  unfold inrow at h
  rw [decide_eq_false_iff_not] at h
  unfold dmay
  rw [if_neg (by omega), if_neg (by omega), if_neg (by omega), if_neg (by omega), if_neg (by omega), if_neg (by omega), if_neg (by omega)]

/-- A row of nodes does not lie in a program's box. -/
theorem far {w : World} {B : Nat} {R : Option Addr} {l : List Nd} {g : Nat} {T : TypeId} {u : Int} {a1 a2 : Option Addr} {n1 c1 n2 c2 : Nat} (h : Nodes w B R l) (hz : Blk w g T #[.int .i64 u, .slice a1 n1 c1, .slice a2 n2 c2]) (i : Nat) (v : Value) :
    Nodes (w.setCell ⟨g, i, none⟩ v) B R l := by
  intro j x hx
  obtain ⟨ad, e, hlt, q0, q1⟩ := h j x hx
  have hb := add_blockN ad (j * 2)
  have hne : ad.block ≠ g := by
    intro hg
    rw [hb, hg, hz.cell] at q1
    match ho : (ad.add (j * 2)).off, q1 with
    | 0, q1 => simp at q1
    | 1, q1 => simp at q1
    | o + 2, q1 => simp at q1
  refine ⟨ad, e, hlt, (World.cell?_of_block ?_).trans q0, (World.cell?_of_block ?_).trans q1⟩
  · rw [hb]; exact Below.heap_setCell _ _ _ _ hne
  · show (w.setCell ⟨g, i, none⟩ v).heap[(ad.add (j * 2)).block]? = w.heap[(ad.add (j * 2)).block]?
    rw [hb]; exact Below.heap_setCell _ _ _ _ hne
theorem row_apart {w : World} {B : Nat} {A : Option Addr} {ks : List Int} {g : Nat} (h : IRow w B A ks) (hA : ∀ ad, A = some ad → ad.block ≠ g) (i : Nat) (v : Value) : IRow (w.setCell ⟨g, i, none⟩ v) B A ks := by
  intro j x hx
  obtain ⟨ad, e, hlt, q⟩ := h j x hx
  refine ⟨ad, e, hlt, (World.cell?_of_block ?_).trans q⟩
  rw [add_blockN]
  exact Below.heap_setCell _ _ _ _ (hA ad e)

/-- Where no node is. -/
theorem nothing_ok (w : World) : Prg.Ok ⟨0, none, 0, [], none, 0, []⟩ w := ⟨(fun i x h => by simp at h), Nodes.nil _ _ _, by simp, by simp, by simp, by simp, fun _ => rfl, fun _ => rfl⟩
theorem AEnds.gone {p : Prg} {d : Dlt} {w w' : World} {e : Ending} {v : Int} (h : aerr p.xs d.p d.op d.n = v) (hv : v ≠ 0) (hb : Below w.heap.size w w') (he : e = .returned (.tuple #[.agg #[.int .i64 0, .slice none 0 0, .slice none 0 0], .int .i64 v])) : AEnds p d w e w' := by
  subst h
  exact ⟨hb, .inr ⟨hv, none, 0, none, 0, he, nothing_ok _⟩⟩

section
variable (ps : Int) (VA : Option Addr) (vc : Nat) (vs : List Int) (B : Option Addr) (xs : List Nd) (cap : Nat) (DA : Option Addr) (dc : Nat) (dp : List Int) (op n : Int)
/-- The world behind the three boxes. -/
def w3 (w : World) (ps : Int) (VA : Option Addr) (vc : Nat) (vs : List Int) (B : Option Addr) (xs : List Nd) (cap : Nat) (DA : Option Addr) (dc : Nat) (dp : List Int) (op n : Int) : World :=
  ((w.alloc (.cells #[.int .i64 ps, .slice VA vs.length vc, .slice B xs.length cap] 36)).alloc (.cells #[.slice DA dp.length dc, .int .i64 op, .int .i64 n] 24)).alloc (.cells #[.int .i64 0, .slice none 0 0, .slice none 0 0] 36)
theorem w3_is (w : World) (ps : Int) (VA : Option Addr) (vc : Nat) (vs : List Int) (B : Option Addr) (xs : List Nd) (cap : Nat) (DA : Option Addr) (dc : Nat) (dp : List Int) (op n : Int) : w3 w ps VA vc vs B xs cap DA dc dp op n =
  ((w.alloc (.cells #[.int .i64 ps, .slice VA vs.length vc, .slice B xs.length cap] 36)).alloc (.cells #[.slice DA dp.length dc, .int .i64 op, .int .i64 n] 24)).alloc (.cells #[.int .i64 0, .slice none 0 0, .slice none 0 0] 36) := rfl
structure Boxes (w : World) (W : World) : Prop where
  p : Blk W w.heap.size 36 #[.int .i64 ps, .slice VA vs.length vc, .slice B xs.length cap]
  d : Blk W (w.heap.size + 1) 24 #[.slice DA dp.length dc, .int .i64 op, .int .i64 n]
  r : Blk W (w.heap.size + 1 + 1) 36 #[.int .i64 0, .slice none 0 0, .slice none 0 0]
  b : Below w.heap.size w W
theorem Boxes.mk' (w : World) : Boxes ps VA vc vs B xs cap DA dc dp op n w (w3 w ps VA vc vs B xs cap DA dc dp op n) := by
  have hb1 : Below w.heap.size w (w.alloc (.cells #[.int .i64 ps, .slice VA vs.length vc, .slice B xs.length cap] 36)) := (Below.refl _ _).alloc (Nat.le_refl _) _
  have hb2 := hb1.alloc hb1.size (.cells #[.slice DA dp.length dc, .int .i64 op, .int .i64 n] 24)
  have hb3 := hb2.alloc hb2.size (.cells #[.int .i64 0, .slice none 0 0, .slice none 0 0] 36)
  have b1 := ((Blk.new w 36 #[.int .i64 ps, .slice VA vs.length vc, .slice B xs.length cap]).alloc (.cells #[.slice DA dp.length dc, .int .i64 op, .int .i64 n] 24)).alloc (.cells #[.int .i64 0, .slice none 0 0, .slice none 0 0] 36)
  have b2 := (Blk.new (w.alloc (.cells #[.int .i64 ps, .slice VA vs.length vc, .slice B xs.length cap] 36)) 24 #[.slice DA dp.length dc, .int .i64 op, .int .i64 n]).alloc (.cells #[.int .i64 0, .slice none 0 0, .slice none 0 0] 36)
  have b3 := Blk.new ((w.alloc (.cells #[.int .i64 ps, .slice VA vs.length vc, .slice B xs.length cap] 36)).alloc (.cells #[.slice DA dp.length dc, .int .i64 op, .int .i64 n] 24)) 36 #[.int .i64 0, .slice none 0 0, .slice none 0 0]
  simp only [World.size_alloc] at b2 b3
  exact ⟨b1, b2, b3, hb3⟩
variable {ps VA vc vs B xs cap DA dc dp op n}
theorem Boxes.below {w W W' : World} (h : Boxes ps VA vc vs B xs cap DA dc dp op n w W) (hb : Below W.heap.size W W') : Boxes ps VA vc vs B xs cap DA dc dp op n w W' :=
  ⟨h.p.below hb h.p.lt, h.d.below hb h.d.lt, h.r.below hb h.r.lt, h.b.trans (hb.mono h.b.size)⟩
theorem Boxes.drew {w W : World} (h : Boxes ps VA vc vs B xs cap DA dc dp op n w W) : Boxes ps VA vc vs B xs cap DA dc dp op n w W.drew := h.below (Below.refl _ _).drew
theorem Boxes.cells {w W : World} (h : Boxes ps VA vc vs B xs cap DA dc dp op n w W) :
    (W.cell? ⟨w.heap.size, 0, none⟩ = some (.int .i64 ps) ∧ W.cell? ⟨w.heap.size, 1, none⟩ = some (.slice VA vs.length vc) ∧ W.cell? ⟨w.heap.size, 2, none⟩ = some (.slice B xs.length cap)) ∧ (W.cell? ⟨w.heap.size + 1, 0, none⟩ = some (.slice DA dp.length dc) ∧ W.cell? ⟨w.heap.size + 1, 1, none⟩ = some (.int .i64 op) ∧ W.cell? ⟨w.heap.size + 1, 2, none⟩ = some (.int .i64 n)) ∧ (W.cell? ⟨w.heap.size + 1 + 1, 0, none⟩ = some (.int .i64 0) ∧ W.cell? ⟨w.heap.size + 1 + 1, 1, none⟩ = some (.slice none 0 0) ∧ W.cell? ⟨w.heap.size + 1 + 1, 2, none⟩ = some (.slice none 0 0)) ∧ W.frozen? ⟨w.heap.size + 1 + 1, 0, none⟩ = false ∧ W.frozen? ⟨w.heap.size + 1 + 1, 1, none⟩ = false ∧ W.frozen? ⟨w.heap.size + 1 + 1, 2, none⟩ = false :=
  ⟨h.p.three, h.d.three, h.r.three, h.r.frozen 0, h.r.frozen 1, h.r.frozen 2⟩
theorem Boxes.stored {w W : World} (h : Boxes ps VA vc vs B xs cap DA dc dp op n w W) (v0 v1 v2 : Value) : Below w.heap.size w (((W.setCell ⟨w.heap.size + 1 + 1, 0, none⟩ v0).setCell ⟨w.heap.size + 1 + 1, 1, none⟩ v1).setCell ⟨w.heap.size + 1 + 1, 2, none⟩ v2) :=
  ((h.b.setCell (p := ⟨w.heap.size + 1 + 1, 0, none⟩) (by simp; omega) v0).setCell (p := ⟨w.heap.size + 1 + 1, 1, none⟩) (by simp; omega) v1).setCell (p := ⟨w.heap.size + 1 + 1, 2, none⟩) (by simp; omega) v2
end

set_option maxRecDepth 100000 in
set_option maxHeartbeats 4000000 in
/-- No node is there. -/
theorem Apply_none (ps : Int) (VA : Option Addr) (vc : Nat) (vs : List Int) (B : Option Addr) (xs : List Nd) (cap : Nat) (DA : Option Addr) (dc : Nat) (dp : List Int) (op n : Int) (w : World) (hp : Prg.Ok ⟨ps, VA, vc, vs, B, cap, xs⟩ w) (hd : Dlt.Ok ⟨DA, dc, dp, op, n⟩ w) (hf : pfind xs dp = -1) :
    Calls Tryz.prog 14 #[.agg #[.int .i64 ps, .slice VA vs.length vc, .slice B xs.length cap], .agg #[.slice DA dp.length dc, .int .i64 op, .int .i64 n]] w (AEnds ⟨ps, VA, vc, vs, B, cap, xs⟩ ⟨DA, dc, dp, op, n⟩ w) := by
  have hX := Boxes.mk' ps VA vc vs B xs cap DA dc dp op n w
  have HW := Lib.hid (w3_is w ps VA vc vs B xs cap DA dc dp op n)
  generalize w3 w ps VA vc vs B xs cap DA dc dp op n = wz at *
  have HF := Lib.hid (Find_any B cap xs DA dc dp wz (hp.at hX.b).body hp.lx (hd.at hX.b).path hd.len)
  rw [hf] at HF
  have HA := Lib.hid (aerr_path hf op n)
  have HX := Lib.hid hX
  obtain ⟨⟨p0, p1, p2⟩, ⟨d0, d1, d2⟩, -⟩ := hX.cells
  rw [HW.out] at p0 p1 p2 d0 d1 d2
  clear hp hd hf hX
  go_enter Tryz.func14, Tryz.ntmps14
  go_wp2_with (go_at_call 15; rw [← HW.out]; refine HF.out.mono ?_; rintro e w1 ⟨rfl, hb⟩; obtain ⟨-, -, ⟨r0, r1, r2⟩, f0, f1, f2⟩ := (HX.out.below hb).cells)
  refine bodyPost_ret (v := .tuple #[.agg #[.int .i64 0, .slice none 0 0, .slice none 0 0], .int .i64 16]) (by simp [results, Tryz.results14, go_sem, r0, r1, r2]) rfl ?_
  exact AEnds.gone HA.out (by decide) ((HX.out.below hb).stored _ _ _) rfl

set_option maxRecDepth 100000 in
set_option maxHeartbeats 4000000 in
/-- There is no such operator. -/
theorem Apply_noop (ps : Int) (VA : Option Addr) (vc : Nat) (vs : List Int) (B : Option Addr) (xs : List Nd) (cap : Nat) (DA : Option Addr) (dc : Nat) (dp : List Int) (op n : Int) (w : World) (hp : Prg.Ok ⟨ps, VA, vc, vs, B, cap, xs⟩ w) (hd : Dlt.Ok ⟨DA, dc, dp, op, n⟩ w) (a : Nat) (x : Nd) (hf : pfind xs dp = a) (hxa : xs[a]? = some x) (ho : inrow op 1 7 = false) :
    Calls Tryz.prog 14 #[.agg #[.int .i64 ps, .slice VA vs.length vc, .slice B xs.length cap], .agg #[.slice DA dp.length dc, .int .i64 op, .int .i64 n]] w (AEnds ⟨ps, VA, vc, vs, B, cap, xs⟩ ⟨DA, dc, dp, op, n⟩ w) := by
  have hX := Boxes.mk' ps VA vc vs B xs cap DA dc dp op n w
  have HW := Lib.hid (w3_is w ps VA vc vs B xs cap DA dc dp op n)
  generalize w3 w ps VA vc vs B xs cap DA dc dp op n = wz at *
  have HF := Lib.hid (Find_any B cap xs DA dc dp wz (hp.at hX.b).body hp.lx (hd.at hX.b).path hd.len)
  rw [hf] at HF
  have HO := Lib.hid (fun W => isOperator_any op W)
  rw [ho] at HO
  have HA := Lib.hid (show aerr xs dp op n = 17 by rw [aerr_at hf hxa, no_op ho]; rfl)
  have HX := Lib.hid hX
  have j1 : ¬ (a : Int) < 0 := by omega
  obtain ⟨⟨p0, p1, p2⟩, ⟨d0, d1, d2⟩, -⟩ := hX.cells
  rw [HW.out] at p0 p1 p2 d0 d1 d2
  clear hp hd hf hX hxa ho
  go_enter Tryz.func14, Tryz.ntmps14
  go_wp2_with (first
    | (go_at_call 15; rw [← HW.out]; refine HF.out.mono ?_; rintro e w1 ⟨rfl, hb⟩; obtain ⟨-, ⟨g0, g1, g2⟩, ⟨r0, r1, r2⟩, f0, f1, f2⟩ := (HX.out.below hb).cells)
    | (go_at_call 22; refine (HO.out _).mono ?_; rintro e w2 ⟨rfl, rfl⟩))
  refine bodyPost_ret (v := .tuple #[.agg #[.int .i64 0, .slice none 0 0, .slice none 0 0], .int .i64 17]) (by simp [results, Tryz.results14, go_sem, r0, r1, r2]) rfl ?_
  exact AEnds.gone HA.out (by decide) ((HX.out.below hb).stored _ _ _) rfl

theorem stored_ok {ps : Int} {VA : Option Addr} {vc : Nat} {vs : List Int} {B : Option Addr} {xs : List Nd} {cap : Nat} {DA : Option Addr} {dc : Nat} {dp : List Int} {op n : Int} {w W : World} (h : Boxes ps VA vc vs B xs cap DA dc dp op n w W) {A3 A2 : Option Addr} {c3 c2 : Nat} {R : List Nd}
    (hv : IRow W W.heap.size A3 vs) (hvf : ∀ ad, A3 = some ad → ad.block ≠ w.heap.size + 1 + 1) (hb : Nodes W W.heap.size A2 R) (l1 : vs.length ≤ 1000000) (l2 : R.length ≤ 1000000) (q1 : vs.length ≤ c3) (q2 : R.length ≤ c2) (n1 : A3 = none → c3 = 0) (n2 : A2 = none → c2 = 0) :
    Prg.Ok ⟨ps, A3, c3, vs, A2, c2, R⟩ (((W.setCell ⟨w.heap.size + 1 + 1, 0, none⟩ (.int .i64 ps)).setCell ⟨w.heap.size + 1 + 1, 1, none⟩ (.slice A3 vs.length c3)).setCell ⟨w.heap.size + 1 + 1, 2, none⟩ (.slice A2 R.length c2)) := by
  have e : (((W.setCell ⟨w.heap.size + 1 + 1, 0, none⟩ (.int .i64 ps)).setCell ⟨w.heap.size + 1 + 1, 1, none⟩ (.slice A3 vs.length c3)).setCell ⟨w.heap.size + 1 + 1, 2, none⟩ (.slice A2 R.length c2)).heap.size = W.heap.size := by simp [World.setCell]
  have r1 := h.r.set 0 (.int .i64 ps)
  simp only [List.setIfInBounds_toArray, List.set_cons_zero] at r1
  have r2 := r1.set 1 (.slice A3 vs.length c3)
  simp only [List.setIfInBounds_toArray, List.set_cons_zero, List.set_cons_succ] at r2
  exact ⟨by rw [e]; exact row_apart (row_apart (row_apart hv hvf 0 _) hvf 1 _) hvf 2 _, by rw [e]; exact far (far (far hb h.r 0 _) r1 1 _) r2 2 _, l1, l2, q1, q2, n1, n2⟩
set_option maxRecDepth 100000 in
set_option maxHeartbeats 8000000 in
/-- The operator is asked. -/
theorem Apply_go (ps : Int) (VA : Option Addr) (vc : Nat) (vs : List Int) (ad : Addr) (xs : List Nd) (cap : Nat) (DA : Option Addr) (dc : Nat) (dp : List Int) (op n : Int) (w : World) (hp : Prg.Ok ⟨ps, VA, vc, vs, some ad, cap, xs⟩ w) (hd : Dlt.Ok ⟨DA, dc, dp, op, n⟩ w) (a m : Nat) (x : Nd) (hf : pfind xs dp = a) (hxa : xs[a]? = some x) (hs : scan 1 (xs.drop a) = some m) (ho : inrow op 1 7 = true) (hl : xs.length ≤ 100000) :
    Calls Tryz.prog 14 #[.agg #[.int .i64 ps, .slice VA vs.length vc, .slice (some ad) xs.length cap], .agg #[.slice DA dp.length dc, .int .i64 op, .int .i64 n]] w (AEnds ⟨ps, VA, vc, vs, some ad, cap, xs⟩ ⟨DA, dc, dp, op, n⟩ w) := by
  have hX := Boxes.mk' ps VA vc vs (some ad) xs cap DA dc dp op n w
  have HW := Lib.hid (w3_is w ps VA vc vs (some ad) xs cap DA dc dp op n)
  generalize w3 w ps VA vc vs (some ad) xs cap DA dc dp op n = wz at *
  have HF := Lib.hid (Find_any (some ad) cap xs DA dc dp wz (hp.at hX.b).body hp.lx (hd.at hX.b).path hd.len)
  rw [hf] at HF
  have HO := Lib.hid (fun W => isOperator_any op W)
  rw [ho] at HO
  have HOps := Lib.hid operators_any
  have hidx := index_ops ho
  have hent := enter_ops ho
  have HA := Lib.hid (aerr_at hf hxa op n)
  have HNW := Lib.hid (show anew xs dp op n = dch xs a op n by unfold anew; rw [hf, Int.toNat_natCast])
  have HLN := Lib.hid (fun hm => dch_len hs hxa (op := op) (n := n) hm)
  have hvn := hp.nv
  have hlv := hp.lv
  have hcv := hp.cv
  have HP := Lib.hid (fun W (h : Boxes ps VA vc vs (some ad) xs cap DA dc dp op n w W) => hp.at h.b)
  have HG := Lib.hid (fun W (h : Boxes ps VA vc vs (some ad) xs cap DA dc dp op n w W) => (opf_any ho ps VA vs.length vc ad xs cap a n x m W (hp.at h.b).body hp.lx hp.ce hxa hs).mono (fun e w' q => show Boxes ps VA vc vs (some ad) xs cap DA dc dp op n w w' ∧ OpEnds (dmay x.1 op n) (dch xs a op n) W e w' from ⟨h.below q.1, q⟩))
  have HCl := Lib.hid (fun W (h : Boxes ps VA vc vs (some ad) xs cap DA dc dp op n w W) => (cloneInts_any VA vc vs W (hp.at h.b).vars hp.nv hp.lv).mono (fun e w' q => show Boxes ps VA vc vs (some ad) xs cap DA dc dp op n w w' ∧ Below W.heap.size W w' ∧ ∃ A c, e = .returned (.slice A vs.length c) ∧ vs.length ≤ c ∧ (A = none → c = 0) ∧ IRow w' w'.heap.size A vs ∧ ∀ ad, A = some ad → ad.block ≠ w.heap.size + 1 + 1 from ⟨h.below q.1, q.1, by obtain ⟨A, c, e1, e2, e3, e4, e5⟩ := q.2; exact ⟨A, c, e1, e2, e3, e4, fun ad e => by have := e5 ad e; have := h.r.lt; omega⟩⟩))
  have HX := Lib.hid hX
  have j1 : ¬ (a : Int) < 0 := by omega
  obtain ⟨⟨p0, p1, p2⟩, ⟨d0, d1, d2⟩, -⟩ := hX.cells
  rw [HW.out] at p0 p1 p2 d0 d1 d2
  generalize opf op = F at *
  generalize dch xs a op n = R at *
  have ne0 : ∀ j, (⟨w.heap.size + 1 + 1, j, none⟩ : Addr) ≠ ⟨w.heap.size, 0, none⟩ := fun j e => by simp at e
  have ne1 : ∀ j, (⟨w.heap.size + 1 + 1, j, none⟩ : Addr) ≠ ⟨w.heap.size, 1, none⟩ := fun j e => by simp at e
  have HSF := Lib.hid (fun W (h : Boxes ps VA vc vs (some ad) xs cap DA dc dp op n w W) => And.intro h.p.three h.d.three)
  have HSR := Lib.hid (fun W (h : Boxes ps VA vc vs (some ad) xs cap DA dc dp op n w W) => And.intro h.r.three (And.intro (h.r.frozen 0) (And.intro (h.r.frozen 1) (h.r.frozen 2))))
  have HST := Lib.hid (fun W (h : Boxes ps VA vc vs (some ad) xs cap DA dc dp op n w W) => h.p.three)
  have HSQ := Lib.hid (fun W (h : Boxes ps VA vc vs (some ad) xs cap DA dc dp op n w W) (v0 v1 v2 : Value) => (((h.p.apart (p := ⟨w.heap.size + 1 + 1, 0, none⟩) (by show w.heap.size ≠ w.heap.size + 1 + 1; omega) v0).apart (p := ⟨w.heap.size + 1 + 1, 1, none⟩) (by show w.heap.size ≠ w.heap.size + 1 + 1; omega) v1).apart (p := ⟨w.heap.size + 1 + 1, 2, none⟩) (by show w.heap.size ≠ w.heap.size + 1 + 1; omega) v2).three)
  cases hm : dmay x.1 op n
  · rw [hm] at HA
    have HG2 := Lib.hid (fun W h => (HG.out W h).mono (fun e w' q => show Boxes ps VA vc vs (some ad) xs cap DA dc dp op n w w' ∧ e = .returned (.tuple #[.slice none 0 0, .bool false]) from ⟨q.1, by rcases q.2.2 with ⟨h1, -⟩ | ⟨-, h2⟩; rw [hm] at h1; cases h1; exact h2⟩))
    clear HG
    clear hp hd hf hX hxa ho hs hm
    go_enter Tryz.func14, Tryz.ntmps14
    go_wp2_with (first
      | (go_at_call 15; rw [← HW.out]; refine HF.out.mono ?_; rintro e w1 ⟨rfl, hb⟩; obtain ⟨-, ⟨g0, g1, g2⟩, -⟩ := (HX.out.below hb).cells)
      | (go_at_call 22; refine (HO.out _).mono ?_; rintro e w2 ⟨rfl, rfl⟩))
    have hX := HX.out.below hb
    go_region_held3 (fun w' => (w'.cell? ⟨w.heap.size, 0, none⟩ = some (.int .i64 ps) ∧ w'.cell? ⟨w.heap.size, 1, none⟩ = some (.slice VA vs.length vc) ∧ w'.cell? ⟨w.heap.size, 2, none⟩ = some (.slice (some ad) xs.length cap)) ∧ (w'.cell? ⟨w.heap.size + 1, 0, none⟩ = some (.slice DA dp.length dc) ∧ w'.cell? ⟨w.heap.size + 1, 1, none⟩ = some (.int .i64 op) ∧ w'.cell? ⟨w.heap.size + 1, 2, none⟩ = some (.int .i64 n))) (first | (with_reducible exact HSF.out _ hX) | (with_reducible exact HSF.out _ hX.drew) | fail) (first
      | (go_at_call 39; (with_reducible refine (HOps.out _).mono ?_); rintro e w2 ⟨rfl, hb2⟩; have hX := hX.drew.below hb2)
      | ((with_reducible refine (HG2.out _ hX).mono ?_); rintro e w4 ⟨hX, rfl⟩; obtain ⟨⟨r0, r1, r2⟩, f0, f1, f2⟩ := HSR.out _ hX)
      | fail)
    go_wp2_with fail
    refine bodyPost_ret (v := .tuple #[.agg #[.int .i64 0, .slice none 0 0, .slice none 0 0], .int .i64 17]) (by simp [results, Tryz.results14, go_sem, r0, r1, r2]) rfl ?_
    exact AEnds.gone HA.out (by decide) (hX.stored _ _ _) rfl
  · rw [hm] at HA
    have HG2 := Lib.hid (fun W h => (HG.out W h).mono (fun e w' q => show Boxes ps VA vc vs (some ad) xs cap DA dc dp op n w w' ∧ ∃ A c, e = .returned (.tuple #[.slice A R.length c, .bool true]) ∧ R.length ≤ c ∧ (A = none → c = 0) ∧ Nodes w' w'.heap.size A R from ⟨q.1, by rcases q.2.2 with ⟨-, h1⟩ | ⟨h2, -⟩; exact h1; rw [hm] at h2; cases h2⟩))
    have HLR := Lib.hid (HLN.out hm)
    clear HG HLN
    clear hp hd hf hX hxa ho hs hm
    go_enter Tryz.func14, Tryz.ntmps14
    go_wp2_with (first
      | (go_at_call 15; rw [← HW.out]; refine HF.out.mono ?_; rintro e w1 ⟨rfl, hb⟩; obtain ⟨-, ⟨g0, g1, g2⟩, -⟩ := (HX.out.below hb).cells)
      | (go_at_call 22; refine (HO.out _).mono ?_; rintro e w2 ⟨rfl, rfl⟩))
    have hX := HX.out.below hb
    go_region_held3 (fun w' => (w'.cell? ⟨w.heap.size, 0, none⟩ = some (.int .i64 ps) ∧ w'.cell? ⟨w.heap.size, 1, none⟩ = some (.slice VA vs.length vc) ∧ w'.cell? ⟨w.heap.size, 2, none⟩ = some (.slice (some ad) xs.length cap)) ∧ (w'.cell? ⟨w.heap.size + 1, 0, none⟩ = some (.slice DA dp.length dc) ∧ w'.cell? ⟨w.heap.size + 1, 1, none⟩ = some (.int .i64 op) ∧ w'.cell? ⟨w.heap.size + 1, 2, none⟩ = some (.int .i64 n))) (first | (with_reducible exact HSF.out _ hX) | (with_reducible exact HSF.out _ hX.drew) | fail) (first
      | (go_at_call 39; (with_reducible refine (HOps.out _).mono ?_); rintro e w2 ⟨rfl, hb2⟩; have hX := hX.drew.below hb2)
      | ((with_reducible refine (HG2.out _ hX).mono ?_); rintro e w4 ⟨hX, A2, c2, rfl, k1, k2, k3⟩; obtain ⟨⟨r0, r1, r2⟩, f0, f1, f2⟩ := HSR.out _ hX)
      | fail)
    go_wp2_with fail
    go_region_held3 (fun w' => (w'.cell? ⟨w.heap.size, 0, none⟩ = some (.int .i64 ps) ∧ w'.cell? ⟨w.heap.size, 1, none⟩ = some (.slice VA vs.length vc) ∧ w'.cell? ⟨w.heap.size, 2, none⟩ = some (.slice (some ad) xs.length cap))) (first | (with_reducible exact HST.out _ hX) | (with_reducible exact HST.out _ hX.drew) | exact HSQ.out _ hX _ _ _ | fail) (first
      | (go_at_call 40; (with_reducible refine (HCl.out _ hX.drew).mono ?_); rintro e w5 ⟨hX, hb5, A3, c3, rfl, v1, v2, v3, v4⟩; have k3 := k3.drewAt.at hb5; obtain ⟨⟨r0, r1, r2⟩, f0, f1, f2⟩ := HSR.out _ hX)
      | fail)
    go_wp2_with fail
    refine bodyPost_ret (v := .tuple #[.agg #[.int .i64 ps, .slice A3 vs.length c3, .slice A2 R.length c2], .int .i64 0]) (by simp [results, Tryz.results14, go_sem, r0, r1, r2]) rfl ?_
    refine ⟨hX.stored _ _ _, .inl ⟨by rw [HA.out]; first | done | rfl, A3, c3, A2, c2, by rw [HNW.out]; first | done | rfl, ?_⟩⟩
    rw [HNW.out]
    exact stored_ok hX v3 v4 k3 hlv (by have := HLR.out; omega) v1 k1 v2 k2

theorem Apply_any (p : Prg) (d : Dlt) (w : World) (hp : p.Ok w) (hd : d.Ok w) (hl : p.xs.length ≤ 100000) :
    Calls Tryz.prog 14 #[.agg #[.int .i64 p.ps, .slice p.A p.vs.length p.c, .slice p.B p.xs.length p.e], .agg #[.slice d.A d.p.length d.c, .int .i64 d.op, .int .i64 d.n]] w (AEnds p d w) := by
  obtain ⟨ps, VA, vc, vs, B, cap, xs⟩ := p
  obtain ⟨DA, dc, dp, op, n⟩ := d
  rcases find_cases xs dp with h | ⟨a, m, x, h1, h2, h3, h4, h5⟩
  · exact Apply_none ps VA vc vs B xs cap DA dc dp op n w hp hd h
  · cases ho : inrow op 1 7
    · exact Apply_noop ps VA vc vs B xs cap DA dc dp op n w hp hd a x h1 h3 ho
    · obtain ⟨ad, e, -⟩ := hp.body a x h3
      simp only at e
      subst e
      exact Apply_go ps VA vc vs ad xs cap DA dc dp op n w hp hd a m x h1 h3 h2 ho hl

end Go.Proofs.YthkhonkibigdaaaGreat.Delta
