/-
  Package delta, walked: a Not ahead of a condition, and another number returned.
-/
import Derived.Test.YthkhonkibigdaaaGreatDeltaPOps2
import Derived.Test.YthkhonkibigdaaaGreatArenaH
namespace Go.Proofs.YthkhonkibigdaaaGreat.Delta
open Go.RowKit Mem _root_.Go.Proofs.YthkhonkibigdaaaGreat.Arena _root_.Go.Proofs.YthkhonkibigdaaaGreat.Kinds _root_.Go.Proofs.YthkhonkibigdaaaGreat.Path
set_option linter.unusedVariables false
attribute [local go_sem ↓] Go.wp_at_zero Go.wp_at_succ

theorem ar_scan {xs : List Nd} {a m : Nat} {x : Nd} (hxa : xs[a]? = some x) (hs : scan 1 (xs.drop a) = some m) : 0 ≤ ar x := by
  obtain ⟨x', c, k1, k2, -⟩ := kid_scan (l := xs) (a := a) (n := m) hs
  rw [hxa] at k1
  cases k1
  omega
theorem ar_some {x : Nd} (h : 0 ≤ ar x) (ht : x.1 = 23 ∨ x.1 = 24 ∨ x.1 = 25) : 1 ≤ ar x := by
  unfold ar at h ⊢
  rcases ht with e | e | e
  all_goals
    rw [e] at h ⊢
    rw [if_neg (by decide)] at h ⊢
    split
    · rename_i c; rw [if_pos c] at h; omega
    · unfold asks; simp
/-- The first kid of a node that has one. -/
theorem kid_first {xs : List Nd} {a m : Nat} {x : Nd} (hxa : xs[a]? = some x) (hs : scan 1 (xs.drop a) = some m) (hr : 1 ≤ ar x) : ∃ m1, scan 1 (xs.drop (a + 1)) = some m1 ∧ 1 ≤ m1 ∧ a + 1 + m1 ≤ xs.length := by
  obtain ⟨x', c, k1, k2, k3, k4, k5, k6, k7, k8⟩ := kid_scan (l := xs) (a := a) (n := m) hs
  rw [hxa] at k1
  cases k1
  obtain ⟨r, m', r1, r2, r3, r4, r5⟩ := k8 0 (by omega)
  rw [scan_0] at r1
  cases r1
  have := T.pos r3
  exact ⟨m', r3, by first | exact this.1 | exact this.2, by omega⟩
theorem keepO {w w' : World} {base : Nat} {e : TypeId} {size n : Nat} {v : Value} {xs : List Value} (h : w.ownsRow base e size v n xs) (hk : Below w.heap.size w w') : w'.ownsRow base e size v n xs := own_of_block h (fun i hi => hk.block i (h.lt i hi).2)
theorem keepV {w w' : World} {g : Nat} {t : TypeId} {cs : Array Value} (h : Blk w g t cs) (hk : Below w.heap.size w w') : Blk w' g t cs := h.below hk h.lt
theorem own_mono {w : World} {base base' : Nat} {e : TypeId} {size n : Nat} {v : Value} {xs : List Value} (h : w.ownsRow base e size v n xs) (hb : base' ≤ base) : w.ownsRow base' e size v n xs := by
  refine ⟨h.1, ?_⟩
  rcases h.2 with hn | ⟨g, cap, cur, rfl, hbg, rest⟩
  · exact .inl hn
  · exact .inr ⟨g, cap, cur, rfl, Nat.le_trans hb hbg, rest⟩
section
variable (ps : Int) (VA : Option Addr) (vl vc : Nat) (ad : Addr) (xs : List Nd) (cap a : Nat) (n : Int) (x : Nd)

theorem first_at (m : Nat) (w : World) (hx : Nodes w w.heap.size (some ad) xs) (hl : xs.length ≤ 1000000) (hxa : xs[a]? = some x) (hs : scan 1 (xs.drop a) = some m) (hr : 1 ≤ ar x) (k : Nat) (hk : a + 1 = k) (W : World) (h : Below (w.alloc (.cells #[.int .i64 ps, .slice VA vl vc, .slice (some ad) xs.length cap, .int .i64 a, .int .i64 n] 78)).heap.size (w.alloc (.cells #[.int .i64 ps, .slice VA vl vc, .slice (some ad) xs.length cap, .int .i64 a, .int .i64 n] 78)) W) :
    Calls Tryz.prog 98 #[.agg #[.int .i64 ps, .slice VA vl vc, .slice (some ad) xs.length cap, .int .i64 a, .int .i64 n]] W fun e w' => e = .returned (.int .i64 (k : Int)) ∧ Below W.heap.size W w' ∧ Below (w.alloc (.cells #[.int .i64 ps, .slice VA vl vc, .slice (some ad) xs.length cap, .int .i64 a, .int .i64 n] 78)).heap.size (w.alloc (.cells #[.int .i64 ps, .slice VA vl vc, .slice (some ad) xs.length cap, .int .i64 a, .int .i64 n] 78)) w' := by
  subst hk
  refine (firstKid_any ps VA vl vc ad xs cap a n x m W ((hx.at ((Below.refl _ _).alloc (Nat.le_refl _) _)).at h) hl hxa hs hr).mono (fun e w' q => ⟨q.1, q.2, h.trans (q.2.mono h.size)⟩)
theorem rep_at (k m : Nat) (hs : scan 1 (xs.drop k) = some m) (hcap : xs.length ≤ cap) (hl : xs.length ≤ 1000000) (w : World) (hx : Nodes w w.heap.size (some ad) xs) (W : World) (h : Below (w.alloc (.cells #[.int .i64 ps, .slice VA vl vc, .slice (some ad) xs.length cap, .int .i64 a, .int .i64 n] 78)).heap.size (w.alloc (.cells #[.int .i64 ps, .slice VA vl vc, .slice (some ad) xs.length cap, .int .i64 a, .int .i64 n] 78)) W) (p q : Int) (vb : Nat) (hv : Blk W vb 45 #[.int .i64 p, .int .i64 q]) :
    Calls Tryz.prog 95 #[.slice (some ad) xs.length cap, .int .i64 k, .slice (some ⟨vb, 0, none⟩) 1 1] W fun e w' => Below (w.alloc (.cells #[.int .i64 ps, .slice VA vl vc, .slice (some ad) xs.length cap, .int .i64 a, .int .i64 n] 78)).heap.size (w.alloc (.cells #[.int .i64 ps, .slice VA vl vc, .slice (some ad) xs.length cap, .int .i64 a, .int .i64 n] 78)) w' ∧ NodesEnds (swap xs k (k + m) [(p, q)]) (w.alloc (.cells #[.int .i64 ps, .slice VA vl vc, .slice (some ad) xs.length cap, .int .i64 a, .int .i64 n] 78)) e w' := by
  have hN : Nodes W W.heap.size (some ad) xs := (hx.at ((Below.refl _ _).alloc (Nat.le_refl _) _)).at h
  have hP : Nodes W W.heap.size (some ⟨vb, 0, none⟩) [(p, q)] := Nodes.of_cells hv.lt (fun j u hj => by
    rw [hv.cell j]
    simpa [ncells] using hj)
  have := Replace_any (some ad) cap xs k (some ⟨vb, 0, none⟩) 1 [(p, q)] _ hN (fun e => by cases e) hcap hl hP (fun e => by cases e) (by simp)
  rw [rep_is hs] at this
  refine Calls.mono (this : Calls _ _ _ _ _) (fun e w' hq => ?_)
  have h2 := hq.from h
  have e : swap xs k (k + m) [(p, q)] = xs.take k ++ ([(p, q)] ++ xs.drop (k + m)) := by unfold swap; rw [List.append_assoc]
  rw [e]
  exact ⟨h2.1, h2⟩
theorem clone_at (w : World) (hx : Nodes w w.heap.size (some ad) xs) (hn : 0 < xs.length) (hl : xs.length ≤ 1000000) (W : World) (h : Below (w.alloc (.cells #[.int .i64 ps, .slice VA vl vc, .slice (some ad) xs.length cap, .int .i64 a, .int .i64 n] 78)).heap.size (w.alloc (.cells #[.int .i64 ps, .slice VA vl vc, .slice (some ad) xs.length cap, .int .i64 a, .int .i64 n] 78)) W) :
    Calls Tryz.prog 97 #[.slice (some ad) xs.length cap] W fun e w' => ∃ g c, e = .returned (.slice (some ⟨g, 0, none⟩) xs.length c) ∧ w'.ownsRow (w.alloc (.cells #[.int .i64 ps, .slice VA vl vc, .slice (some ad) xs.length cap, .int .i64 a, .int .i64 n] 78)).heap.size 45 2 (.slice (some ⟨g, 0, none⟩) xs.length c) xs.length (ncells xs) ∧ Below W.heap.size W w' ∧ Below (w.alloc (.cells #[.int .i64 ps, .slice VA vl vc, .slice (some ad) xs.length cap, .int .i64 a, .int .i64 n] 78)).heap.size (w.alloc (.cells #[.int .i64 ps, .slice VA vl vc, .slice (some ad) xs.length cap, .int .i64 a, .int .i64 n] 78)) w' :=
  (cloneNodes_any ad cap xs W ((hx.at ((Below.refl _ _).alloc (Nat.le_refl _) _)).at h) hn hl).mono (fun e w' ⟨g, c, e1, e2, e3⟩ => ⟨g, c, e1, own_mono e2 h.size, e3, h.trans (e3.mono h.size)⟩)
theorem insert_at (k : Nat) (hk : k < xs.length) (hk1 : 1 ≤ k) (hl : xs.length ≤ 1000000) (w W : World) (h : Below (w.alloc (.cells #[.int .i64 ps, .slice VA vl vc, .slice (some ad) xs.length cap, .int .i64 a, .int .i64 n] 78)).heap.size (w.alloc (.cells #[.int .i64 ps, .slice VA vl vc, .slice (some ad) xs.length cap, .int .i64 a, .int .i64 n] 78)) W) (p q : Int) (g c vb : Nat) (ho : W.ownsRow (w.alloc (.cells #[.int .i64 ps, .slice VA vl vc, .slice (some ad) xs.length cap, .int .i64 a, .int .i64 n] 78)).heap.size 45 2 (.slice (some ⟨g, 0, none⟩) xs.length c) xs.length (ncells xs)) (hv : Blk W vb 45 #[.int .i64 p, .int .i64 q]) :
    Calls Tryz.prog 96 #[.slice (some ⟨g, 0, none⟩) xs.length c, .int .i64 k, .slice (some ⟨vb, 0, none⟩) 1 1] W fun e w' => Below (w.alloc (.cells #[.int .i64 ps, .slice VA vl vc, .slice (some ad) xs.length cap, .int .i64 a, .int .i64 n] 78)).heap.size (w.alloc (.cells #[.int .i64 ps, .slice VA vl vc, .slice (some ad) xs.length cap, .int .i64 a, .int .i64 n] 78)) w' ∧ NodesEnds (swap xs k k [(p, q)]) (w.alloc (.cells #[.int .i64 ps, .slice VA vl vc, .slice (some ad) xs.length cap, .int .i64 a, .int .i64 n] 78)) e w' := by
  have hne : vb ≠ g := by
    intro e
    subst e
    rcases ho.2 with ⟨h', _⟩ | ⟨g', c', cur, h', hb, hg, hnc, hcm, hcs, htake⟩
    · simp at h'
    · simp only [Value.slice.injEq, Option.some.injEq, Addr.mk.injEq, and_true, true_and] at h'
      obtain ⟨rfl, rfl⟩ := h'
      have e : (some (Obj.cells cur 45 (0, 0)) : Option Obj) = some (.cells #[.int .i64 p, .int .i64 q] 45 (0, 0)) := hg.symm.trans hv
      simp only [Option.some.injEq, Obj.cells.injEq] at e
      rw [e.1] at hcs
      simp at hcs
      omega
  refine (Insert_any g c xs _ rfl _ k (p, q) vb W ho hv hne hk hl).mono (fun e w' q' => ?_)
  obtain ⟨hb, g2, c2, e1, e2, e3⟩ := q'
  have hB : Below (w.alloc (.cells #[.int .i64 ps, .slice VA vl vc, .slice (some ad) xs.length cap, .int .i64 a, .int .i64 n] 78)).heap.size (w.alloc (.cells #[.int .i64 ps, .slice VA vl vc, .slice (some ad) xs.length cap, .int .i64 a, .int .i64 n] 78)) w' := h.trans hb
  have hlen : (swap xs k k [(p, q)]).length = xs.length + 1 := by rw [swap_len (by omega), List.length_singleton]; omega
  refine ⟨hB, hB, _, _, by rw [hlen]; exact e1, by rw [hlen]; exact e2, (fun e => by cases e), ?_⟩
  have e : swap xs k k [(p, q)] = xs.take k ++ (p, q) :: xs.drop k := by unfold swap; rw [List.append_assoc]; rfl
  rw [e]
  exact e3

set_option maxRecDepth 100000 in
set_option maxHeartbeats 4000000 in
theorem giveBack_any (m : Nat) (w : World) (hx : Nodes w w.heap.size (some ad) xs) (hl : xs.length ≤ 1000000) (hcap : xs.length ≤ cap) (hxa : xs[a]? = some x) (hs : scan 1 (xs.drop a) = some m) :
    Calls Tryz.prog 73 #[.agg #[.int .i64 ps, .slice VA vl vc, .slice (some ad) xs.length cap, .int .i64 a, .int .i64 n]] w (OpEnds (dmay x.1 7 n) (dch xs a 7 n) w) := by
  have hb1 : Below w.heap.size w (w.alloc (.cells #[.int .i64 ps, .slice VA vl vc, .slice (some ad) xs.length cap, .int .i64 a, .int .i64 n] 78)) := (Below.refl _ _).alloc (Nat.le_refl _) _
  have HT := Lib.hid (fun W h => box_at ps VA vl vc ad xs cap a n w W h)
  have HX := Lib.hid (fun W (h : Below (w.alloc (.cells #[.int .i64 ps, .slice VA vl vc, .slice (some ad) xs.length cap, .int .i64 a, .int .i64 n] 78)).heap.size (w.alloc (.cells #[.int .i64 ps, .slice VA vl vc, .slice (some ad) xs.length cap, .int .i64 a, .int .i64 n] 78)) W) => (hx.at hb1).at h)
  have HB := Lib.hid hb1
  have H1 := Lib.hid (is_row ps VA vl vc ad xs cap a n x [25] 1 rfl #[.int .i64 25] rfl w hx hxa (by omega) _ (Below.refl _ _) (w.heap.size + 1) (World.size_alloc _ _))
  have HD := Lib.hid (show decide (x.1 ∈ [(25 : Int)]) = dmay x.1 7 n by simp [dmay])
  by_cases h0 : x.1 = 25
  · have hr := ar_some (ar_scan hxa hs) (.inr (.inr h0))
    obtain ⟨m1, s1, s2, s3⟩ := kid_first hxa hs hr
    obtain ⟨k, hk⟩ : ∃ k, a + 1 = k := ⟨_, rfl⟩
    rw [hk] at s1 s3
    have HK := Lib.hid (first_at ps VA vl vc ad xs cap a n x m w hx hl hxa hs hr k hk)
    have HR := Lib.hid (rep_at ps VA vl vc ad xs cap a n k m1 s1 hcap hl w hx)
    have HC := Lib.hid (show swap xs k (k + m1) [(1, n)] = dch xs a 7 n by unfold dch; rw [if_neg (by decide), if_neg (by decide), if_neg (by decide), if_neg (by decide), hk, aend_some s1]; rfl)
    have hd : decide (x.1 ∈ [(25 : Int)]) = true := by simp [h0]
    rw [hd] at H1 HD
    clear hx hxa hb1 hs h0 hr s1 s2 s3 hk hd
    go_enter Tryz.func73, Tryz.ntmps73
    go_wp2_with (first
      | (go_at_call 92; (with_reducible refine H1.out.mono ?_); rintro e w1 ⟨rfl, hB⟩)
      | fail)
    have hC := HT.out _ hB.drew
    go_region_held3 (fun w' => w'.cell? ⟨w.heap.size, 0, none⟩ = some (.int .i64 ps) ∧ w'.cell? ⟨w.heap.size, 1, none⟩ = some (.slice VA vl vc) ∧ w'.cell? ⟨w.heap.size, 2, none⟩ = some (.slice (some ad) xs.length cap) ∧ w'.cell? ⟨w.heap.size, 3, none⟩ = some (.int .i64 a) ∧ w'.cell? ⟨w.heap.size, 4, none⟩ = some (.int .i64 n)) (first | (with_reducible exact HT.out _ hB) | (with_reducible exact HT.out _ hB.drew) | (with_reducible exact HT.out _ (hB.alloc hB.size _)) | (with_reducible exact HT.out _ (hB.alloc hB.size _).drew) | fail) (first
      | (go_at_call 98; (with_reducible refine (HK.out _ (by first | exact hB.drew | exact (hB.alloc hB.size _).drew)).mono ?_); rintro e w4 ⟨rfl, hk4, hB⟩; first | (have hV := keepV (Blk.drew (Blk.new _ 45 #[.int .i64 1, .int .i64 n])) hk4) | skip)
      | (go_at_call 95; first
          | ((with_reducible refine (HR.out _ hB _ _ _ hV).mono ?_); rintro e w5 ⟨hB, hb6, A, c, rfl, k1, k2, k3⟩)
          | ((with_reducible refine (HR.out _ (hB.alloc hB.size _) _ _ _ (Blk.new _ 45 #[.int .i64 1, .int .i64 n])).mono ?_); rintro e w5 ⟨hB, hb6, A, c, rfl, k1, k2, k3⟩)
          | fail)
      | fail)
    all_goals go_wp2
    all_goals go_returns
    all_goals exact OpEnds.of ⟨hB, .inl ⟨rfl, A, c, rfl, k1, k2, k3⟩⟩ HB.out HD.out HC.out
  · have hd : decide (x.1 ∈ [(25 : Int)]) = false := by simp [h0]
    rw [hd] at H1 HD
    clear hx hxa hb1 hs h0 hd
    go_enter Tryz.func73, Tryz.ntmps73
    go_wp2_with (first
      | (go_at_call 92; (with_reducible refine H1.out.mono ?_); rintro e w1 ⟨rfl, hB⟩)
      | fail)
    go_returns
    exact OpEnds.of ⟨hB, .inr ⟨rfl, rfl⟩⟩ HB.out HD.out rfl
set_option maxRecDepth 100000 in
set_option maxHeartbeats 8000000 in
theorem negate_any (m : Nat) (w : World) (hx : Nodes w w.heap.size (some ad) xs) (hl : xs.length ≤ 1000000) (hxa : xs[a]? = some x) (hs : scan 1 (xs.drop a) = some m) :
    Calls Tryz.prog 72 #[.agg #[.int .i64 ps, .slice VA vl vc, .slice (some ad) xs.length cap, .int .i64 a, .int .i64 n]] w (OpEnds (dmay x.1 6 n) (dch xs a 6 n) w) := by
  have hb1 : Below w.heap.size w (w.alloc (.cells #[.int .i64 ps, .slice VA vl vc, .slice (some ad) xs.length cap, .int .i64 a, .int .i64 n] 78)) := (Below.refl _ _).alloc (Nat.le_refl _) _
  have HT := Lib.hid (fun W h => box_at ps VA vl vc ad xs cap a n w W h)
  have HX := Lib.hid (fun W (h : Below (w.alloc (.cells #[.int .i64 ps, .slice VA vl vc, .slice (some ad) xs.length cap, .int .i64 a, .int .i64 n] 78)).heap.size (w.alloc (.cells #[.int .i64 ps, .slice VA vl vc, .slice (some ad) xs.length cap, .int .i64 a, .int .i64 n] 78)) W) => (hx.at hb1).at h)
  have HB := Lib.hid hb1
  have H1 := Lib.hid (is_row ps VA vl vc ad xs cap a n x [23, 24] 2 rfl #[.int .i64 23, .int .i64 24] rfl w hx hxa (by omega) _ (Below.refl _ _) (w.heap.size + 1) (World.size_alloc _ _))
  have HD := Lib.hid (show (decide (x.1 ∈ [(23 : Int), 24]) && decide (n = 0)) = dmay x.1 6 n by simp [dmay])
  have HI := Lib.hid (Below.refl (w.alloc (.cells #[.int .i64 ps, .slice VA vl vc, .slice (some ad) xs.length cap, .int .i64 a, .int .i64 n] 78)).heap.size (w.alloc (.cells #[.int .i64 ps, .slice VA vl vc, .slice (some ad) xs.length cap, .int .i64 a, .int .i64 n] 78)))
  by_cases h0 : n = 0
  · have e1 : (n != 0) = false := by simpa using h0
    by_cases h1 : x.1 = 23 ∨ x.1 = 24
    · have hr := ar_some (ar_scan hxa hs) (h1.elim .inl (fun q => .inr (.inl q)))
      obtain ⟨m1, s1, s2, s3⟩ := kid_first hxa hs hr
      obtain ⟨k, hk⟩ : ∃ k, a + 1 = k := ⟨_, rfl⟩
      rw [hk] at s1 s3
      have HK := Lib.hid (first_at ps VA vl vc ad xs cap a n x m w hx hl hxa hs hr k hk)
      have HCl := Lib.hid (clone_at ps VA vl vc ad xs cap a n w hx (by omega) hl)
      have HR := Lib.hid (insert_at ps VA vl vc ad xs cap a n k (by omega) (by omega) hl w)
      have HC := Lib.hid (show swap xs k k [(6, 0)] = dch xs a 6 n by unfold dch; rw [if_neg (by decide), if_neg (by decide), if_neg (by decide), if_pos rfl, hk])
      have hd : decide (x.1 ∈ [(23 : Int), 24]) = true := by simpa using h1
      rw [hd] at H1
      have HD2 := Lib.hid (show true = dmay x.1 6 n by rw [← HD.out, hd, decide_eq_true h0]; rfl)
      clear hx hxa hb1 hs h0 h1 hr s1 s2 s3 hk hd HD
      go_enter Tryz.func72, Tryz.ntmps72
      go_wp2_with (first
        | (go_at_call 92; (with_reducible refine H1.out.mono ?_); rintro e w1 ⟨rfl, hB⟩; have c0 := fun o => (HT.out _ (hB.alloc hB.size o)).1; have c1 := fun o => (HT.out _ (hB.alloc hB.size o)).2.1; have c2 := fun o => (HT.out _ (hB.alloc hB.size o)).2.2.1; have c3 := fun o => (HT.out _ (hB.alloc hB.size o)).2.2.2.1; have c4 := fun o => (HT.out _ (hB.alloc hB.size o)).2.2.2.2; have cq0 := (HT.out _ hB).1; have cq1 := (HT.out _ hB).2.1; have cq2 := (HT.out _ hB).2.2.1; have cq3 := (HT.out _ hB).2.2.2.1; have cq4 := (HT.out _ hB).2.2.2.2)
        | fail)
      have hC := HT.out _ hB.drew
      go_region_held3 (fun w' => w'.cell? ⟨w.heap.size, 0, none⟩ = some (.int .i64 ps) ∧ w'.cell? ⟨w.heap.size, 1, none⟩ = some (.slice VA vl vc) ∧ w'.cell? ⟨w.heap.size, 2, none⟩ = some (.slice (some ad) xs.length cap) ∧ w'.cell? ⟨w.heap.size, 3, none⟩ = some (.int .i64 a) ∧ w'.cell? ⟨w.heap.size, 4, none⟩ = some (.int .i64 n)) (first | (with_reducible exact HT.out _ hB) | (with_reducible exact HT.out _ hB.drew) | (with_reducible exact HT.out _ (hB.alloc hB.size _)) | (with_reducible exact HT.out _ (hB.alloc hB.size _).drew) | fail) (first
        | (go_at_call 98; (with_reducible refine (HK.out _ (by first | exact hB.drew | exact (hB.alloc hB.size _).drew | exact hB | exact hB.alloc hB.size _)).mono ?_); rintro e w4 ⟨rfl, hk4, hB⟩; (first | (have hV := keepV hV hk4) | (have hV := keepV (Blk.drew (Blk.new _ 45 #[.int .i64 6, .int .i64 0])) hk4) | (have hV := keepV (Blk.new _ 45 #[.int .i64 6, .int .i64 0]) hk4) | skip); (first | (have hO := keepO hO hk4) | (have hO := keepO (hO.alloc _) hk4) | skip))
        | (go_at_call 97; (with_reducible refine (HCl.out _ (by first | exact hB.drew | exact (hB.alloc hB.size _).drew | exact hB | exact hB.alloc hB.size _)).mono ?_); rintro e w4 ⟨g, c, rfl, hO, hk4, hB⟩; (first | (have hV := keepV hV hk4) | (have hV := keepV (Blk.drew (Blk.new _ 45 #[.int .i64 6, .int .i64 0])) hk4) | (have hV := keepV (Blk.new _ 45 #[.int .i64 6, .int .i64 0]) hk4) | skip))
        | (go_at_call 96; first
            | ((with_reducible refine (HR.out _ hB _ _ _ _ _ hO hV).mono ?_); rintro e w5 ⟨hB, hb6, A, c, rfl, k1, k2, k3⟩)
            | ((with_reducible refine (HR.out _ (hB.alloc hB.size _) _ _ _ _ _ (hO.alloc _) (Blk.new _ 45 #[.int .i64 6, .int .i64 0])).mono ?_); rintro e w5 ⟨hB, hb6, A, c, rfl, k1, k2, k3⟩)
            | fail)
        | fail)
      all_goals go_wp2
      all_goals go_returns
      all_goals exact OpEnds.of ⟨hB, .inl ⟨rfl, A, _, rfl, k1, k2, k3⟩⟩ HB.out HD2.out HC.out
    · have hd : decide (x.1 ∈ [(23 : Int), 24]) = false := by simpa using h1
      rw [hd] at H1
      have HD2 := Lib.hid (show false = dmay x.1 6 n by rw [← HD.out, hd]; rfl)
      clear hx hxa hb1 hs h0 h1 hd HD
      go_enter Tryz.func72, Tryz.ntmps72
      go_wp2_with (first
        | (go_at_call 92; (with_reducible refine H1.out.mono ?_); rintro e w1 ⟨rfl, hB⟩; have c0 := fun o => (HT.out _ (hB.alloc hB.size o)).1; have c1 := fun o => (HT.out _ (hB.alloc hB.size o)).2.1; have c2 := fun o => (HT.out _ (hB.alloc hB.size o)).2.2.1; have c3 := fun o => (HT.out _ (hB.alloc hB.size o)).2.2.2.1; have c4 := fun o => (HT.out _ (hB.alloc hB.size o)).2.2.2.2; have cq0 := (HT.out _ hB).1; have cq1 := (HT.out _ hB).2.1; have cq2 := (HT.out _ hB).2.2.1; have cq3 := (HT.out _ hB).2.2.2.1; have cq4 := (HT.out _ hB).2.2.2.2)
        | fail)
      go_returns
      exact OpEnds.of ⟨hB, .inr ⟨rfl, rfl⟩⟩ HB.out HD2.out rfl
  · have e1 : (n != 0) = true := by simpa using h0
    have HD2 := Lib.hid (show false = dmay x.1 6 n by rw [← HD.out, decide_eq_false h0, Bool.and_false])
    clear hx hxa hb1 hs h0 HD
    go_enter Tryz.func72, Tryz.ntmps72
    go_wp2
    go_returns
    exact OpEnds.of ⟨HI.out, .inr ⟨rfl, rfl⟩⟩ HB.out HD2.out rfl
end

end Go.Proofs.YthkhonkibigdaaaGreat.Delta
