/-
  Package delta, walked: what operators do, each.
-/
import Derived.Test.YthkhonkibigdaaaGreatDeltaPOps
namespace Go.Proofs.YthkhonkibigdaaaGreat.Delta
open Go.RowKit Mem _root_.Go.Proofs.YthkhonkibigdaaaGreat.Arena _root_.Go.Proofs.YthkhonkibigdaaaGreat.Kinds _root_.Go.Proofs.YthkhonkibigdaaaGreat.Path
set_option linter.unusedVariables false
attribute [local go_sem ↓] Go.wp_at_zero Go.wp_at_succ

theorem dch_tag {xs : List Nd} {a : Nat} {x : Nd} (h : xs[a]? = some x) {op : Int} (n : Int) (ho : op = 1 ∨ op = 2 ∨ op = 3) : dch xs a op n = swap xs a (a + 1) [(n, x.2)] := by
  unfold dch
  rw [if_pos ho, getD_at h]
theorem dch_num {xs : List Nd} {a : Nat} {x : Nd} (h : xs[a]? = some x) (n : Int) : dch xs a 4 n = swap xs a (a + 1) [(x.1, n)] := by
  unfold dch
  rw [if_neg (by decide), if_pos rfl, getD_at h]
theorem OpEnds.of {b b' : Bool} {ys ys' : List Nd} {w w1 w2 : World} {e : Ending} (h : OpEnds b ys w1 e w2) (hb : Below w.heap.size w w1) (h1 : b = b') (h2 : ys = ys') : OpEnds b' ys' w e w2 := by
  subst h1 h2
  exact ⟨hb.trans (h.1.mono hb.size), h.2⟩
section
variable (ps : Int) (VA : Option Addr) (vl vc : Nat) (ad : Addr) (xs : List Nd) (cap a : Nat) (n : Int) (x : Nd)

/-- The spot's box, as long as nothing below is touched. -/
theorem box_at (w W : World) (h : Below (w.alloc (.cells #[.int .i64 ps, .slice VA vl vc, .slice (some ad) xs.length cap, .int .i64 a, .int .i64 n] 78)).heap.size (w.alloc (.cells #[.int .i64 ps, .slice VA vl vc, .slice (some ad) xs.length cap, .int .i64 a, .int .i64 n] 78)) W) : W.cell? ⟨w.heap.size, 0, none⟩ = some (.int .i64 ps) ∧ W.cell? ⟨w.heap.size, 1, none⟩ = some (.slice VA vl vc) ∧ W.cell? ⟨w.heap.size, 2, none⟩ = some (.slice (some ad) xs.length cap) ∧ W.cell? ⟨w.heap.size, 3, none⟩ = some (.int .i64 a) ∧ W.cell? ⟨w.heap.size, 4, none⟩ = some (.int .i64 n) :=
  have b := (Blk.new w 78 #[.int .i64 ps, .slice VA vl vc, .slice (some ad) xs.length cap, .int .i64 a, .int .i64 n]).below h (Blk.new w 78 #[.int .i64 ps, .slice VA vl vc, .slice (some ad) xs.length cap, .int .i64 a, .int .i64 n]).lt
  ⟨b.cell 0, b.cell 1, b.cell 2, b.cell 3, b.cell 4⟩
theorem is_lit (ts : List Int) (k : Nat) (hk : ts.length = k) (cs : Array Value) (hcs : (icells ts).toArray = cs) (W : World) (hx : Nodes W W.heap.size (some ad) xs) (hxa : xs[a]? = some x) (hl : k ≤ 1000) :
    Calls Tryz.prog 92 #[.agg #[.int .i64 ps, .slice VA vl vc, .slice (some ad) xs.length cap, .int .i64 a, .int .i64 n], .slice (some ⟨W.heap.size, 0, none⟩) k k] (W.alloc (.cells cs 3)) fun e w' => e = .returned (.bool (decide (x.1 ∈ ts))) ∧ Below W.heap.size W w' := by
  subst hk hcs
  have hb : Below W.heap.size W (W.alloc (.cells (icells ts).toArray 3)) := (Below.refl _ _).alloc (Nat.le_refl _) _
  refine (is_any ps VA vl vc ad xs cap a n x (some ⟨W.heap.size, 0, none⟩) ts.length ts _ (hx.at hb) hxa (IRow.of_blk (Blk.new W 3 (icells ts).toArray) (by rw [World.size_alloc]; omega)) (by omega)).mono (fun e w' h => ⟨h.1, hb.trans (h.2.mono hb.size)⟩)

set_option maxRecDepth 100000 in
set_option maxHeartbeats 2000000 in
theorem tagged_any (lo hi : Int) (w : World) (hx : Nodes w w.heap.size (some ad) xs) (hl : xs.length ≤ 1000000) (hxa : xs[a]? = some x) :
    Calls Tryz.prog 91 #[.agg #[.int .i64 ps, .slice VA vl vc, .slice (some ad) xs.length cap, .int .i64 a, .int .i64 n], .int .i64 lo, .int .i64 hi] w (OpEnds (inrow x.1 lo hi && inrow n lo hi) (swap xs a (a + 1) [(n, x.2)]) w) := by
  have hb1 : Below w.heap.size w (w.alloc (.cells #[.int .i64 ps, .slice VA vl vc, .slice (some ad) xs.length cap, .int .i64 a, .int .i64 n] 78)) := (Below.refl _ _).alloc (Nat.le_refl _) _
  have HT := Lib.hid (fun W h => box_at ps VA vl vc ad xs cap a n w W h)
  have HX := Lib.hid (fun W (h : Below (w.alloc (.cells #[.int .i64 ps, .slice VA vl vc, .slice (some ad) xs.length cap, .int .i64 a, .int .i64 n] 78)).heap.size (w.alloc (.cells #[.int .i64 ps, .slice VA vl vc, .slice (some ad) xs.length cap, .int .i64 a, .int .i64 n] 78)) W) => (hx.at hb1).at h)
  have HB := Lib.hid hb1
  have HN := Lib.hid (fun W h => node_any ps VA vl vc ad xs cap a n x W (HX.out W h) hxa)
  have HV := Lib.hid (fun W h p q => with_any ps VA vl vc ad xs cap a n (p, q) W (HX.out W h) hl (List.getElem?_eq_some_iff.1 hxa).1)
  obtain ⟨t, v⟩ := x
  have H1 := Lib.hid (fun W => within_any t lo hi W)
  have H2 := Lib.hid (fun W => within_any n lo hi W)
  generalize inrow t lo hi = y1 at *
  generalize inrow n lo hi = y2 at *
  clear hx hxa hb1
  go_enter Tryz.func91, Tryz.ntmps91
  cases y1 <;> cases y2
  all_goals go_wp2_with (first
    | (go_at_call 93; refine (HN.out _ (Below.refl _ _)).mono ?_; rintro e w1 ⟨rfl, hb⟩; have c0 := fun o => (HT.out _ (hb.alloc hb.size o)).1; have c1 := fun o => (HT.out _ (hb.alloc hb.size o)).2.1; have c2 := fun o => (HT.out _ (hb.alloc hb.size o)).2.2.1; have c3 := fun o => (HT.out _ (hb.alloc hb.size o)).2.2.2.1; have c4 := fun o => (HT.out _ (hb.alloc hb.size o)).2.2.2.2; have cq0 := (HT.out _ hb).1; have cq1 := (HT.out _ hb).2.1; have cq2 := (HT.out _ hb).2.2.1; have cq3 := (HT.out _ hb).2.2.2.1; have cq4 := (HT.out _ hb).2.2.2.2)
    | (go_at_call 52; first | ((with_reducible refine (H1.out _).mono ?_); rintro e w2 ⟨rfl, rfl⟩) | ((with_reducible refine (H2.out _).mono ?_); rintro e w2 ⟨rfl, rfl⟩) | fail)
    | (go_at_call 94; refine (HV.out _ (hb.alloc hb.size _) _ _).mono ?_; rintro e w3 ⟨hb3, A, c, rfl, k1, k2, k3⟩))
  all_goals go_returns
  · exact ⟨HB.out.trans ((hb.alloc hb.size _).mono HB.out.size), .inr ⟨rfl, rfl⟩⟩
  · exact ⟨HB.out.trans ((hb.alloc hb.size _).mono HB.out.size), .inr ⟨rfl, rfl⟩⟩
  · exact ⟨HB.out.trans ((hb.alloc hb.size _).mono HB.out.size), .inr ⟨rfl, rfl⟩⟩
  · exact ⟨HB.out.trans (((hb.alloc hb.size _).trans (hb3.mono (hb.alloc hb.size _).size)).mono HB.out.size), .inl ⟨rfl, A, c, rfl, k1, k2, k3⟩⟩

set_option maxRecDepth 100000 in
set_option maxHeartbeats 1000000 in
theorem arith_any (w : World) (hx : Nodes w w.heap.size (some ad) xs) (hl : xs.length ≤ 1000000) (hxa : xs[a]? = some x) :
    Calls Tryz.prog 67 #[.agg #[.int .i64 ps, .slice VA vl vc, .slice (some ad) xs.length cap, .int .i64 a, .int .i64 n]] w (OpEnds (dmay x.1 1 n) (dch xs a 1 n) w) := by
  have hb1 : Below w.heap.size w (w.alloc (.cells #[.int .i64 ps, .slice VA vl vc, .slice (some ad) xs.length cap, .int .i64 a, .int .i64 n] 78)) := (Below.refl _ _).alloc (Nat.le_refl _) _
  have HG := Lib.hid (tagged_any ps VA vl vc ad xs cap a n x 7 11 (w.alloc (.cells #[.int .i64 ps, .slice VA vl vc, .slice (some ad) xs.length cap, .int .i64 a, .int .i64 n] 78)) (hx.at hb1) hl hxa)
  have HB := Lib.hid hb1
  have HD := Lib.hid (show (inrow x.1 7 11 && inrow n 7 11) = dmay x.1 1 n from rfl)
  have HC := Lib.hid (dch_tag hxa n (op := 1) (by decide)).symm
  generalize (inrow x.1 7 11 && inrow n 7 11) = y at *
  clear hx hxa hb1
  go_enter Tryz.func67, Tryz.ntmps67
  go_wp2_with (go_at_call 91; refine HG.out.mono ?_; rintro e w1 ⟨hb, ⟨hy, A, c, rfl, k1, k2, k3⟩ | ⟨hy, rfl⟩⟩)
  · go_wp2
    go_returns
    exact OpEnds.of ⟨hb, .inl ⟨hy, A, c, rfl, k1, k2, k3⟩⟩ HB.out HD.out HC.out
  · go_wp2
    go_returns
    exact OpEnds.of ⟨hb, .inr ⟨hy, rfl⟩⟩ HB.out HD.out HC.out

set_option maxRecDepth 100000 in
set_option maxHeartbeats 1000000 in
theorem rel_any (w : World) (hx : Nodes w w.heap.size (some ad) xs) (hl : xs.length ≤ 1000000) (hxa : xs[a]? = some x) :
    Calls Tryz.prog 68 #[.agg #[.int .i64 ps, .slice VA vl vc, .slice (some ad) xs.length cap, .int .i64 a, .int .i64 n]] w (OpEnds (dmay x.1 2 n) (dch xs a 2 n) w) := by
  have hb1 : Below w.heap.size w (w.alloc (.cells #[.int .i64 ps, .slice VA vl vc, .slice (some ad) xs.length cap, .int .i64 a, .int .i64 n] 78)) := (Below.refl _ _).alloc (Nat.le_refl _) _
  have HG := Lib.hid (tagged_any ps VA vl vc ad xs cap a n x 12 17 (w.alloc (.cells #[.int .i64 ps, .slice VA vl vc, .slice (some ad) xs.length cap, .int .i64 a, .int .i64 n] 78)) (hx.at hb1) hl hxa)
  have HB := Lib.hid hb1
  have HD := Lib.hid (show (inrow x.1 12 17 && inrow n 12 17) = dmay x.1 2 n from rfl)
  have HC := Lib.hid (dch_tag hxa n (op := 2) (by decide)).symm
  generalize (inrow x.1 12 17 && inrow n 12 17) = y at *
  clear hx hxa hb1
  go_enter Tryz.func68, Tryz.ntmps68
  go_wp2_with (go_at_call 91; refine HG.out.mono ?_; rintro e w1 ⟨hb, ⟨hy, A, c, rfl, k1, k2, k3⟩ | ⟨hy, rfl⟩⟩)
  · go_wp2
    go_returns
    exact OpEnds.of ⟨hb, .inl ⟨hy, A, c, rfl, k1, k2, k3⟩⟩ HB.out HD.out HC.out
  · go_wp2
    go_returns
    exact OpEnds.of ⟨hb, .inr ⟨hy, rfl⟩⟩ HB.out HD.out HC.out

set_option maxRecDepth 100000 in
set_option maxHeartbeats 1000000 in
theorem logic_any (w : World) (hx : Nodes w w.heap.size (some ad) xs) (hl : xs.length ≤ 1000000) (hxa : xs[a]? = some x) :
    Calls Tryz.prog 69 #[.agg #[.int .i64 ps, .slice VA vl vc, .slice (some ad) xs.length cap, .int .i64 a, .int .i64 n]] w (OpEnds (dmay x.1 3 n) (dch xs a 3 n) w) := by
  have hb1 : Below w.heap.size w (w.alloc (.cells #[.int .i64 ps, .slice VA vl vc, .slice (some ad) xs.length cap, .int .i64 a, .int .i64 n] 78)) := (Below.refl _ _).alloc (Nat.le_refl _) _
  have HG := Lib.hid (tagged_any ps VA vl vc ad xs cap a n x 18 19 (w.alloc (.cells #[.int .i64 ps, .slice VA vl vc, .slice (some ad) xs.length cap, .int .i64 a, .int .i64 n] 78)) (hx.at hb1) hl hxa)
  have HB := Lib.hid hb1
  have HD := Lib.hid (show (inrow x.1 18 19 && inrow n 18 19) = dmay x.1 3 n from rfl)
  have HC := Lib.hid (dch_tag hxa n (op := 3) (by decide)).symm
  generalize (inrow x.1 18 19 && inrow n 18 19) = y at *
  clear hx hxa hb1
  go_enter Tryz.func69, Tryz.ntmps69
  go_wp2_with (go_at_call 91; refine HG.out.mono ?_; rintro e w1 ⟨hb, ⟨hy, A, c, rfl, k1, k2, k3⟩ | ⟨hy, rfl⟩⟩)
  · go_wp2
    go_returns
    exact OpEnds.of ⟨hb, .inl ⟨hy, A, c, rfl, k1, k2, k3⟩⟩ HB.out HD.out HC.out
  · go_wp2
    go_returns
    exact OpEnds.of ⟨hb, .inr ⟨hy, rfl⟩⟩ HB.out HD.out HC.out

/-- A literal of numbers, asked for a node's tag; another node in place of one and all below it. -/
theorem is_row (ts : List Int) (k : Nat) (hk : ts.length = k) (cs : Array Value) (hcs : (icells ts).toArray = cs) (w : World) (hx : Nodes w w.heap.size (some ad) xs) (hxa : xs[a]? = some x) (hl : k ≤ 1000) (W : World) (h : Below (w.alloc (.cells #[.int .i64 ps, .slice VA vl vc, .slice (some ad) xs.length cap, .int .i64 a, .int .i64 n] 78)).heap.size (w.alloc (.cells #[.int .i64 ps, .slice VA vl vc, .slice (some ad) xs.length cap, .int .i64 a, .int .i64 n] 78)) W) (g : Nat) (hg : W.heap.size = g) :
    Calls Tryz.prog 92 #[.agg #[.int .i64 ps, .slice VA vl vc, .slice (some ad) xs.length cap, .int .i64 a, .int .i64 n], .slice (some ⟨g, 0, none⟩) k k] (W.alloc (.cells cs 3)) fun e w' => e = .returned (.bool (decide (x.1 ∈ ts))) ∧ Below (w.alloc (.cells #[.int .i64 ps, .slice VA vl vc, .slice (some ad) xs.length cap, .int .i64 a, .int .i64 n] 78)).heap.size (w.alloc (.cells #[.int .i64 ps, .slice VA vl vc, .slice (some ad) xs.length cap, .int .i64 a, .int .i64 n] 78)) w' := by
  subst hg
  exact (is_lit ps VA vl vc ad xs cap a n x ts k hk cs hcs W ((hx.at ((Below.refl _ _).alloc (Nat.le_refl _) _)).at h) hxa hl).mono (fun e w' q => ⟨q.1, h.trans (q.2.mono h.size)⟩)
theorem rep_row (k m : Nat) (hs : scan 1 (xs.drop k) = some m) (hcap : xs.length ≤ cap) (hl : xs.length ≤ 1000000) (w : World) (hx : Nodes w w.heap.size (some ad) xs) (W : World) (h : Below (w.alloc (.cells #[.int .i64 ps, .slice VA vl vc, .slice (some ad) xs.length cap, .int .i64 a, .int .i64 n] 78)).heap.size (w.alloc (.cells #[.int .i64 ps, .slice VA vl vc, .slice (some ad) xs.length cap, .int .i64 a, .int .i64 n] 78)) W) (p q : Int) :
    Calls Tryz.prog 95 #[.slice (some ad) xs.length cap, .int .i64 k, .slice (some ⟨W.heap.size, 0, none⟩) 1 1] (W.alloc (.cells #[.int .i64 p, .int .i64 q] 45)) (NodesEnds (swap xs k (k + m) [(p, q)]) W) := by
  have hb : Below W.heap.size W (W.alloc (.cells #[.int .i64 p, .int .i64 q] 45)) := (Below.refl _ _).alloc (Nat.le_refl _) _
  have hN : Nodes W W.heap.size (some ad) xs := (hx.at ((Below.refl _ _).alloc (Nat.le_refl _) _)).at h
  have hP : Nodes (W.alloc (.cells #[.int .i64 p, .int .i64 q] 45)) (W.alloc (.cells #[.int .i64 p, .int .i64 q] 45)).heap.size (some ⟨W.heap.size, 0, none⟩) [(p, q)] := Nodes.of_cells (Blk.new W 45 #[.int .i64 p, .int .i64 q]).lt (fun j u hj => by
    rw [(Blk.new W 45 #[.int .i64 p, .int .i64 q]).cell j]
    simpa [ncells] using hj)
  have := Replace_any (some ad) cap xs k (some ⟨W.heap.size, 0, none⟩) 1 [(p, q)] _ (hN.at hb) (fun e => by cases e) hcap hl hP (fun e => by cases e) (by simp)
  rw [rep_is hs] at this
  refine Calls.mono (this : Calls _ _ _ _ _) (fun e w' h => ?_)
  have h2 := h.from hb
  refine ⟨h2.1, ?_⟩
  have e : swap xs k (k + m) [(p, q)] = xs.take k ++ ([(p, q)] ++ xs.drop (k + m)) := by unfold swap; rw [List.append_assoc]
  rw [e]
  exact h2.2

set_option maxRecDepth 100000 in
set_option maxHeartbeats 4000000 in
theorem constant_any (w : World) (hx : Nodes w w.heap.size (some ad) xs) (hl : xs.length ≤ 1000000) (hxa : xs[a]? = some x) :
    Calls Tryz.prog 70 #[.agg #[.int .i64 ps, .slice VA vl vc, .slice (some ad) xs.length cap, .int .i64 a, .int .i64 n]] w (OpEnds (dmay x.1 4 n) (dch xs a 4 n) w) := by
  have hb1 : Below w.heap.size w (w.alloc (.cells #[.int .i64 ps, .slice VA vl vc, .slice (some ad) xs.length cap, .int .i64 a, .int .i64 n] 78)) := (Below.refl _ _).alloc (Nat.le_refl _) _
  have HT := Lib.hid (fun W h => box_at ps VA vl vc ad xs cap a n w W h)
  have HX := Lib.hid (fun W (h : Below (w.alloc (.cells #[.int .i64 ps, .slice VA vl vc, .slice (some ad) xs.length cap, .int .i64 a, .int .i64 n] 78)).heap.size (w.alloc (.cells #[.int .i64 ps, .slice VA vl vc, .slice (some ad) xs.length cap, .int .i64 a, .int .i64 n] 78)) W) => (hx.at hb1).at h)
  have HB := Lib.hid hb1
  have HN := Lib.hid (fun W h => node_any ps VA vl vc ad xs cap a n x W (HX.out W h) hxa)
  have HV := Lib.hid (fun W h p q => with_any ps VA vl vc ad xs cap a n (p, q) W (HX.out W h) hl (List.getElem?_eq_some_iff.1 hxa).1)
  have H1 := Lib.hid (is_row ps VA vl vc ad xs cap a n x [1] 1 rfl #[.int .i64 1] rfl w hx hxa (by omega) _ (Below.refl _ _) (w.heap.size + 1) (World.size_alloc _ _))
  have H2 := Lib.hid (fun W h => is_row ps VA vl vc ad xs cap a n x [2] 1 rfl #[.int .i64 2] rfl w hx hxa (by omega) W h _ rfl)
  have H3 := Lib.hid (fun W => within_any n 0 1 W)
  have HD := Lib.hid (show (decide (x.1 ∈ [(1 : Int)]) || (decide (x.1 ∈ [(2 : Int)]) && inrow n 0 1)) = dmay x.1 4 n by simp [dmay, inrow])
  have HC := Lib.hid (dch_num hxa n).symm
  have HI := Lib.hid (Below.refl (w.alloc (.cells #[.int .i64 ps, .slice VA vl vc, .slice (some ad) xs.length cap, .int .i64 a, .int .i64 n] 78)).heap.size (w.alloc (.cells #[.int .i64 ps, .slice VA vl vc, .slice (some ad) xs.length cap, .int .i64 a, .int .i64 n] 78)))
  obtain ⟨t, v⟩ := x
  simp only at H1 H2 HN HD HC ⊢
  generalize decide (t ∈ [(1 : Int)]) = y1 at *
  generalize decide (t ∈ [(2 : Int)]) = y2 at *
  generalize inrow n 0 1 = y3 at *
  clear hx hxa hb1
  cases y1 <;> cases y2 <;> cases y3
  all_goals go_enter Tryz.func70, Tryz.ntmps70
  all_goals go_wp2_with (first
    | (go_at_call 92; first
        | ((with_reducible refine H1.out.mono ?_); rintro e w1 ⟨rfl, hb⟩; have c0 := fun o => (HT.out _ (hb.alloc hb.size o)).1; have c1 := fun o => (HT.out _ (hb.alloc hb.size o)).2.1; have c2 := fun o => (HT.out _ (hb.alloc hb.size o)).2.2.1; have c3 := fun o => (HT.out _ (hb.alloc hb.size o)).2.2.2.1; have c4 := fun o => (HT.out _ (hb.alloc hb.size o)).2.2.2.2; have cq0 := (HT.out _ hb).1; have cq1 := (HT.out _ hb).2.1; have cq2 := (HT.out _ hb).2.2.1; have cq3 := (HT.out _ hb).2.2.2.1; have cq4 := (HT.out _ hb).2.2.2.2)
        | ((with_reducible refine (H2.out _ hb).mono ?_); rintro e w2 ⟨rfl, hb⟩; have c0 := fun o => (HT.out _ (hb.alloc hb.size o)).1; have c1 := fun o => (HT.out _ (hb.alloc hb.size o)).2.1; have c2 := fun o => (HT.out _ (hb.alloc hb.size o)).2.2.1; have c3 := fun o => (HT.out _ (hb.alloc hb.size o)).2.2.2.1; have c4 := fun o => (HT.out _ (hb.alloc hb.size o)).2.2.2.2; have cq0 := (HT.out _ hb).1; have cq1 := (HT.out _ hb).2.1; have cq2 := (HT.out _ hb).2.2.1; have cq3 := (HT.out _ hb).2.2.2.1; have cq4 := (HT.out _ hb).2.2.2.2)
        | fail)
    | (go_at_call 52; (with_reducible refine (H3.out _).mono ?_); rintro e w3 ⟨rfl, rfl⟩)
    | (go_at_call 93; refine (HN.out _ hb).mono ?_; rintro e w4 ⟨rfl, hb4⟩; have hb := hb.trans (hb4.mono hb.size); have c0 := fun o => (HT.out _ (hb.alloc hb.size o)).1; have c1 := fun o => (HT.out _ (hb.alloc hb.size o)).2.1; have c2 := fun o => (HT.out _ (hb.alloc hb.size o)).2.2.1; have c3 := fun o => (HT.out _ (hb.alloc hb.size o)).2.2.2.1; have c4 := fun o => (HT.out _ (hb.alloc hb.size o)).2.2.2.2; have cq0 := (HT.out _ hb).1; have cq1 := (HT.out _ hb).2.1; have cq2 := (HT.out _ hb).2.2.1; have cq3 := (HT.out _ hb).2.2.2.1; have cq4 := (HT.out _ hb).2.2.2.2)
    | (go_at_call 94; refine (HV.out _ (hb.alloc hb.size _) _ _).mono ?_; rintro e w5 ⟨hb5, A, c, rfl, k1, k2, k3⟩)
    | fail)
  all_goals go_returns
  all_goals first
    | exact OpEnds.of ⟨hb, .inr ⟨rfl, rfl⟩⟩ HB.out HD.out HC.out
    | exact OpEnds.of ⟨(hb.alloc hb.size _).trans (hb5.mono (hb.alloc hb.size _).size), .inl ⟨rfl, A, c, rfl, k1, k2, k3⟩⟩ HB.out HD.out HC.out

set_option maxRecDepth 100000 in
set_option maxHeartbeats 4000000 in
theorem remove_any (m : Nat) (w : World) (hx : Nodes w w.heap.size (some ad) xs) (hl : xs.length ≤ 1000000) (hcap : xs.length ≤ cap) (hxa : xs[a]? = some x) (hs : scan 1 (xs.drop a) = some m) :
    Calls Tryz.prog 71 #[.agg #[.int .i64 ps, .slice VA vl vc, .slice (some ad) xs.length cap, .int .i64 a, .int .i64 n]] w (OpEnds (dmay x.1 5 n) (dch xs a 5 n) w) := by
  have hb1 : Below w.heap.size w (w.alloc (.cells #[.int .i64 ps, .slice VA vl vc, .slice (some ad) xs.length cap, .int .i64 a, .int .i64 n] 78)) := (Below.refl _ _).alloc (Nat.le_refl _) _
  have HT := Lib.hid (fun W h => box_at ps VA vl vc ad xs cap a n w W h)
  have HX := Lib.hid (fun W (h : Below (w.alloc (.cells #[.int .i64 ps, .slice VA vl vc, .slice (some ad) xs.length cap, .int .i64 a, .int .i64 n] 78)).heap.size (w.alloc (.cells #[.int .i64 ps, .slice VA vl vc, .slice (some ad) xs.length cap, .int .i64 a, .int .i64 n] 78)) W) => (hx.at hb1).at h)
  have HB := Lib.hid hb1
  have H1 := Lib.hid (is_row ps VA vl vc ad xs cap a n x [21, 22, 23, 24, 25] 5 rfl #[.int .i64 21, .int .i64 22, .int .i64 23, .int .i64 24, .int .i64 25] rfl w hx hxa (by omega) _ (Below.refl _ _) (w.heap.size + 1) (World.size_alloc _ _))
  have HR := Lib.hid (rep_row ps VA vl vc ad xs cap a n a m hs hcap hl w hx)
  have HD := Lib.hid (show (decide (x.1 ∈ [(21 : Int), 22, 23, 24, 25]) && decide (n = 0)) = dmay x.1 5 n by simp [dmay])
  have HC := Lib.hid (show swap xs a (a + m) [(26, 0)] = dch xs a 5 n by unfold dch; rw [if_neg (by decide), if_neg (by decide), if_pos rfl, aend_some hs]; rfl)
  have HI := Lib.hid (Below.refl (w.alloc (.cells #[.int .i64 ps, .slice VA vl vc, .slice (some ad) xs.length cap, .int .i64 a, .int .i64 n] 78)).heap.size (w.alloc (.cells #[.int .i64 ps, .slice VA vl vc, .slice (some ad) xs.length cap, .int .i64 a, .int .i64 n] 78)))
  generalize decide (x.1 ∈ [(21 : Int), 22, 23, 24, 25]) = y1 at *
  clear hx hxa hb1 hs
  by_cases h0 : n = 0
  · have e1 : (n != 0) = false := by simpa using h0
    have HD2 := Lib.hid (show y1 = dmay x.1 5 n by rw [← HD.out, decide_eq_true h0, Bool.and_true])
    clear h0 HD
    cases y1
    all_goals go_enter Tryz.func71, Tryz.ntmps71
    all_goals go_wp2_with (first
      | (go_at_call 92; (with_reducible refine H1.out.mono ?_); rintro e w1 ⟨rfl, hb⟩; have c0 := fun o => (HT.out _ (hb.alloc hb.size o)).1; have c1 := fun o => (HT.out _ (hb.alloc hb.size o)).2.1; have c2 := fun o => (HT.out _ (hb.alloc hb.size o)).2.2.1; have c3 := fun o => (HT.out _ (hb.alloc hb.size o)).2.2.2.1; have c4 := fun o => (HT.out _ (hb.alloc hb.size o)).2.2.2.2; have cq0 := (HT.out _ hb).1; have cq1 := (HT.out _ hb).2.1; have cq2 := (HT.out _ hb).2.2.1; have cq3 := (HT.out _ hb).2.2.2.1; have cq4 := (HT.out _ hb).2.2.2.2)
      | (go_at_call 95; (with_reducible refine (HR.out _ hb _ _).mono ?_); rintro e w5 ⟨hb5, A, c, rfl, k1, k2, k3⟩)
      | fail)
    all_goals go_returns
    · exact OpEnds.of ⟨hb, .inr ⟨rfl, rfl⟩⟩ HB.out HD2.out HC.out
    · exact OpEnds.of ⟨hb.trans (hb5.mono hb.size), .inl ⟨rfl, A, c, rfl, k1, k2, k3⟩⟩ HB.out HD2.out HC.out
  · have e1 : (n != 0) = true := by simpa using h0
    have HD2 := Lib.hid (show false = dmay x.1 5 n by rw [← HD.out, decide_eq_false h0, Bool.and_false])
    clear h0 HD
    go_enter Tryz.func71, Tryz.ntmps71
    go_wp2
    go_returns
    exact OpEnds.of ⟨HI.out, .inr ⟨rfl, rfl⟩⟩ HB.out HD2.out HC.out
end

end Go.Proofs.YthkhonkibigdaaaGreat.Delta
