/-
  Package direct, walked: a unit of fuel is taken; a part is passed over; a place of an array; an event is stored.
-/
import Derived.Test.YtodejloonfkkmaaDirPRow
import Derived.Deep.RegionLaw
import Derived.Deep.AppendLies
import Derived.Deep.QuietTactic
set_option linter.unusedVariables false
set_option linter.unusedSimpArgs false
namespace Go.Proofs.Ytodejloonfkkmaa.Dir
open Go.RowKit Mem _root_.Go.Proofs.Ytodejloonfkkmaa.Arena _root_.Go.Proofs.Ytodejloonfkkmaa.Kinds _root_.Go.Proofs.Ytodejloonfkkmaa.Path _root_.Go.Proofs.Ytodejloonfkkmaa.Cat _root_.Go.Proofs.Ytodejloonfkkmaa.Suite _root_.Go.Proofs.Ytodejloonfkkmaa.Mach
attribute [local go_sem ↓] Go.wp_at_zero Go.wp_at_succ

set_option maxRecDepth 100000 in
theorem without_any (k : Int) (w : World) : Calls Try.prog 34 #[.int .i64 k] w fun e w' => e = .returned (.agg #[.int .i64 k, .int .i64 0]) ∧ Below w.heap.size w w' := by
  have hb := (Below.refl w.heap.size w).alloc (Nat.le_refl _) (.cells #[.int .i64 k, .int .i64 0] 67)
  obtain ⟨r0, r1⟩ := (Blk.new w 67 #[.int .i64 k, .int .i64 0]).two
  go_enter Try.func34, Try.ntmps34
  go_wp2_with fail
  refine bodyPost_ret (v := .agg #[.int .i64 k, .int .i64 0]) (by simp [results, Try.results34, go_sem, r0, r1]) rfl ?_
  exact ⟨rfl, hb⟩

section
variable {K : DK} {κ : Nat → Nat} {evv : Value} {Y : List ((Option Addr × Nat) × List Int)} {s : St} {pos : Int} {W W' : World}
set_option maxRecDepth 100000 in
theorem take_out (h : DM K κ evv Y s pos W) (h0 : s.steps = K.F) : Calls Try.prog 45 #[.pointer (some ⟨K.g, 0, none⟩)] W fun e W' => e = .panicked (ended 4 0) ∧ DM K κ evv Y s pos W' ∧ Went κ κ W W' := by
  have c2 : W.cell? ⟨K.g, 2, none⟩ = some (.int .i64 s.steps) := h.cell 2
  have c7 : W.cell? ⟨K.g, 7, none⟩ = some (.int .i64 K.F) := h.cell 7
  rw [← h0] at c7
  have HD := Lib.hid h.drew
  have HW := Lib.hid (Went.refl κ W).drew
  clear h h0
  generalize s.steps = n at c2 c7
  go_enter Try.func45, Try.ntmps45
  go_wp2_with fail
  go_region
  go_wp2_with (first | (go_at_call 34; (with_reducible refine (without_any 4 _).mono ?_); rintro e w1 ⟨rfl, hb1⟩) | fail)
  exact ⟨rfl, rfl, HD.out.below hb1, HW.out.below hb1⟩
set_option maxRecDepth 100000 in
theorem take_on (h : DM K κ evv Y s pos W) (h0 : s.steps ≠ K.F) (hF : s.steps ≤ 10000) : Calls Try.prog 45 #[.pointer (some ⟨K.g, 0, none⟩)] W fun e W' => e = .returned (.tuple #[]) ∧ DM K κ evv Y s.tick pos W' ∧ Went κ κ W W' := by
  have c2 : W.cell? ⟨K.g, 2, none⟩ = some (.int .i64 s.steps) := h.cell 2
  have c7 : W.cell? ⟨K.g, 7, none⟩ = some (.int .i64 K.F) := h.cell 7
  have f2 := h.drew.blk.frozen 2
  have e3 : ((s.steps : Int) == (K.F : Int)) = false := by simp; omega
  have v1 : IntKind.i64.wrap ((s.steps : Int) + 1) = (s.steps : Int) + 1 := IntWalk.i64_in _ (by omega)
  have HD := Lib.hid h.drew.tick
  have HW := Lib.hid ((Went.refl κ W).drew.setCell (a := ⟨K.g, 2, none⟩) (.inl (by rw [h.lab.g]; decide)) (.int .i64 ((s.steps : Int) + 1)))
  clear h h0
  go_enter Try.func45, Try.ntmps45
  go_wp2_with fail
  go_region
  go_wp2_with fail
  refine bodyPost_end (results_none rfl _ _ _) rfl ?_
  exact ⟨rfl, HD.out, HW.out⟩
set_option maxRecDepth 100000 in
/-- A part is passed over. -/
theorem pass_any {k n : Nat} (h : DM K κ evv Y s k W) (hn : scan 1 (K.p.xs.drop k) = some n) : Calls Try.prog 86 #[.pointer (some ⟨K.g, 0, none⟩)] W fun e W' => e = .returned (.tuple #[]) ∧ DM K κ evv Y s ((k + n : Nat) : Int) W' ∧ Went κ κ W W' := by
  have c5 : W.cell? ⟨K.g, 5, none⟩ = some (.int .i64 k) := h.cell 5
  have c6 : W.cell? ⟨K.g, 6, none⟩ = some (.slice (some ⟨K.bb, 0, none⟩) K.p.xs.length K.bc) := h.cell 6
  have cb := h.br k n hn
  have f5 := h.drew.blk.frozen 5
  have hk : k < K.p.xs.length := by
    by_cases q : k < K.p.xs.length
    · exact q
    · rw [List.drop_eq_nil_of_le (by omega)] at hn; rw [show scan 1 ([] : List Nd) = none from scan_nil 0] at hn; cases hn
  have i1 : (k : Int) < (K.p.xs.length : Int) := by omega
  have i2 : (0 : Int) ≤ (k : Int) := by omega
  have HD := Lib.hid (h.drew.goto ((k + n : Nat) : Int))
  have HW := Lib.hid ((Went.refl κ W).drew.setCell (a := ⟨K.g, 5, none⟩) (.inl (by rw [h.lab.g]; decide)) (.int .i64 ((k + n : Nat) : Int)))
  clear h hn
  generalize ((k + n : Nat) : Int) = q at *
  go_enter Try.func86, Try.ntmps86
  go_wp2_with fail
  go_region
  go_wp2_with fail
  refine bodyPost_end (results_none rfl _ _ _) rfl ?_
  exact ⟨rfl, HD.out, HW.out⟩
set_option maxRecDepth 100000 in
/-- A place that an array has not. -/
theorem place_out (h : DM K κ evv Y s pos W) {n : Nat} (hn : n < K.p.vs.length) (h0 : 0 < (dcell K.p.vs s n).length) {i : Int} (hi : i < 0 ∨ ((dcell K.p.vs s n).length : Int) ≤ i) : Calls Try.prog 90 #[.pointer (some ⟨K.g, 0, none⟩), .int .i64 n, .int .i64 i] W fun e W' => e = .panicked (ended 2 0) ∧ DM K κ evv Y s pos W' ∧ Went κ κ W W' := by
  obtain ⟨cb, cc, b, c, e1, y1, y2, y3, y4, y5⟩ := h.var hn h0
  have c8 : W.cell? ⟨K.g, 8, none⟩ = some K.cv := h.cell 8
  rw [e1] at c8
  have i1 : (n : Int) < (K.p.vs.length : Int) := by omega
  have i2 : (0 : Int) ≤ (n : Int) := by omega
  have HD := Lib.hid h
  have HW := Lib.hid (Went.refl κ W)
  clear h y2 y3 y4 y5
  generalize (dcell K.p.vs s n).length = q at *
  rcases hi with hi | hi
  · go_enter Try.func90, Try.ntmps90
    go_wp2_with (first | (go_at_call 34; (with_reducible refine (without_any 2 _).mono ?_); rintro e w1 ⟨rfl, hb1⟩) | fail)
    exact ⟨rfl, rfl, HD.out.below hb1, HW.out.below hb1⟩
  · have hi0 : ¬ i < 0 := by omega
    go_enter Try.func90, Try.ntmps90
    go_wp2_with (first | (go_at_call 34; (with_reducible refine (without_any 2 _).mono ?_); rintro e w1 ⟨rfl, hb1⟩) | fail)
    exact ⟨rfl, rfl, HD.out.below hb1, HW.out.below hb1⟩
/-- What a place comes to that an array has. -/
def PlaceEnds (K : DK) (κ : Nat → Nat) (Y : List ((Option Addr × Nat) × List Int)) (s : St) (n i : Nat) (W : World) (e : Ending) (W' : World) : Prop :=
  W' = W ∧ ∃ b c, e = .returned (.pointer (some ⟨b, i, none⟩)) ∧ Y[n]? = some ((some ⟨b, 0, none⟩, c), dcell K.p.vs s n) ∧ (∀ (j : Nat) (x : Int), (dcell K.p.vs s n)[j]? = some x → W.cell? ⟨b, j, none⟩ = some (.int .i64 x)) ∧ (∀ j, W.frozen? ⟨b, j, none⟩ = false) ∧ κ b = 5 + n
set_option maxRecDepth 100000 in
/-- A place that an array has. -/
theorem place_in (h : DM K κ evv Y s pos W) {n : Nat} (hn : n < K.p.vs.length) {i : Nat} (hi : i < (dcell K.p.vs s n).length) : Calls Try.prog 90 #[.pointer (some ⟨K.g, 0, none⟩), .int .i64 n, .int .i64 i] W (PlaceEnds K κ Y s n i W) := by
  obtain ⟨cb, cc, b, c, e1, y1, y2, y3, y4, y5⟩ := h.var hn (by omega)
  have c8 : W.cell? ⟨K.g, 8, none⟩ = some K.cv := h.cell 8
  rw [e1] at c8
  have i1 : (n : Int) < (K.p.vs.length : Int) := by omega
  have i2 : (0 : Int) ≤ (n : Int) := by omega
  have HY := Lib.hid (show PlaceEnds K κ Y s n i W (.returned (.pointer (some ⟨b, i, none⟩))) W from ⟨rfl, b, c, rfl, y2, y3, y4, y5⟩)
  generalize hq : (dcell K.p.vs s n).length = q at y1 hi
  clear h y2 y3 y4 y5 hq
  have j1 : (i : Int) < (q : Int) := by omega
  have j2 : (0 : Int) ≤ (i : Int) := by omega
  have j3 : ¬ (i : Int) < 0 := by omega
  have j4 : ¬ (q : Int) ≤ (i : Int) := by omega
  go_enter Try.func90, Try.ntmps90
  go_wp2_with fail
  go_ret
  exact HY.out
theorem Went.new0 {κ κ' : Nat → Nat} {W W1 W' : World} (hk : Went κ κ W W') (hs : W.heap.size ≤ W1.heap.size) (h : ∀ k, κ' k ≠ 0 → κ k ≠ 0 ∨ W1.heap.size ≤ k) : Went κ κ' W W' := ⟨hk.kept, fun k q => by
  rcases h k q with c | c
  · exact .inl c
  · exact .inr (Nat.le_trans hs c)⟩
set_option maxRecDepth 100000 in
set_option maxHeartbeats 2000000 in
/-- A variable, or a place of an array, is given another number, and the event is kept. -/
theorem store_any (h : DM K κ evv Y s pos W) (he : s.ev.length < 1000000) {n j b c : Nat} {L : List Int} (hy : Y[n]? = some ((some ⟨b, 0, none⟩, c), L)) (hj : j < L.length) (i a x : Int) {s' : St} (hd : dcells K.p.vs s' = (dcells K.p.vs s).set n (L.set j x)) (h3 : s'.ev = s.ev ++ [(i, a, x)]) (h4 : s'.steps = s.steps) :
    Calls Try.prog 110 #[.pointer (some ⟨K.g, 0, none⟩), .pointer (some ⟨b, j, none⟩), .agg #[.int .i64 i, .int .i64 a, .int .i64 x]] W fun e W' => e = .returned (.int .i64 0) ∧ Came K κ s' pos W W' := by
  have hb1 := (Below.refl W.heap.size W).alloc (Nat.le_refl _) (.cells #[.int .i64 i, .int .i64 a, .int .i64 x] 64)
  have bX := Blk.new W 64 #[.int .i64 i, .int .i64 a, .int .i64 x]
  obtain ⟨x0, x1, x2⟩ := bX.three
  have hκb : κ b = 5 + n := h.lab.y n _ b hy (by rfl)
  have hblt := (h.lab.lt b (by omega)).2
  have hr := (h.below hb1).yr n _ hy
  have fb : (W.alloc (.cells #[.int .i64 i, .int .i64 a, .int .i64 x] 64)).frozen? ⟨b, j, none⟩ = false := World.ownsRow.frozenAt hr j
  have cb : ∃ v, (W.alloc (.cells #[.int .i64 i, .int .i64 a, .int .i64 x] 64)).cell? ⟨b, j, none⟩ = some v := by
    obtain ⟨v, hv⟩ : ∃ v, L[j]? = some v := ⟨_, List.getElem?_eq_getElem hj⟩
    exact ⟨_, own_read hr hv⟩
  obtain ⟨v0, cb⟩ := cb
  have h2a : DM K κ evv (Y.set n ((some ⟨b, 0, none⟩, c), L.set j x)) { s' with ev := s.ev } pos (W.setCell ⟨b, j, none⟩ (.int .i64 x)) :=
    h.set_y hy (by rfl) hj x ((dcells_same rfl rfl).trans hd) rfl h4
  have hb2 := (Below.refl (W.setCell ⟨b, j, none⟩ (.int .i64 x)).heap.size (W.setCell ⟨b, j, none⟩ (.int .i64 x))).alloc (Nat.le_refl _) (.cells #[.int .i64 i, .int .i64 a, .int .i64 x] 64)
  have h2 := h2a.below hb2
  have hw2 := ((Went.refl κ W).setCell (a := ⟨b, j, none⟩) (.inl (show κ b ≠ 0 by omega)) (.int .i64 x)).below hb2
  have bX2 := Blk.new (W.setCell ⟨b, j, none⟩ (.int .i64 x)) 64 #[.int .i64 i, .int .i64 a, .int .i64 x]
  rw [show (W.setCell ⟨b, j, none⟩ (.int .i64 x)).heap.size = W.heap.size by simp] at bX2
  clear h2a hb2
  obtain ⟨W2, hW2⟩ : ∃ W2, (W.setCell ⟨b, j, none⟩ (.int .i64 x)).alloc (.cells #[.int .i64 i, .int .i64 a, .int .i64 x] 64) = W2 := ⟨_, rfl⟩
  rw [hW2] at h2 hw2 bX2
  have hsz2 : W.heap.size < W2.heap.size := bX2.lt
  have c3 : W2.cell? ⟨K.g, 3, none⟩ = some evv := h2.cell 3
  obtain ⟨q0, q1, q2⟩ := bX2.three
  have hO := h2.er
  have c3a : (W2.alloc (.cells #[.int .i64 i, .int .i64 a, .int .i64 x] 64)).cell? ⟨K.g, 3, none⟩ = some evv := (h2.blk.alloc _).cell 3
  obtain ⟨ig, hig, hz0, hz1, hz2⟩ := info_parts info_event
  have HWW := Lib.hid hW2
  have H2 := Lib.hid (h2.below (((Below.refl W2.heap.size W2).alloc (Nat.le_refl _) (.cells #[.int .i64 i, .int .i64 a, .int .i64 x] 64)).drew))
  have HW2 := Lib.hid (hw2.below (((Below.refl W2.heap.size W2).alloc (Nat.le_refl _) (.cells #[.int .i64 i, .int .i64 a, .int .i64 x] 64)).drew))
  have HE := Lib.hid (And.intro h3 h4)
  have hbs := h2.size
  clear h hy hd h3 h4 hr h2 hw2 bX bX2 hb1 hW2
  go_enter Try.func110, Try.ntmps110
  go_wp2_with fail
  rw [HWW.out]
  go_region_law (refine step_append_lies _ (by rfl) _ _ _ (by rfl) K.base 64 ig _ 3 24 Try.underlying30 hig hz0 hz1 hz2 rfl (by omega) _ s.ev.length (ecells s.ev) (by rfl) ((hO.alloc _).drew) ⟨W2.heap.size, 0, none⟩ 1 1 [.int .i64 i, .int .i64 a, .int .i64 x] (by rfl) (by rfl) (World.news_of_block (cs := #[.int .i64 i, .int .i64 a, .int .i64 x]) (t := 64) (fr := (0, 0)) (heap_alloc_new W2 _)) (by simp [Value.oneCell']) (by omega) (by simp only [maxLen]; omega) (by omega) (by simp; omega) (W2.heap.size + 1) (by simp) ?_; intro gg cap4 w5 hown hgr hat hlt5; have bG := H2.out.blk.grown hgr (fun z => by have q := H2.out.lab.e K.g z.symm; rw [H2.out.lab.g] at q; omega); have yf := bG.frozen 3; have y3 : w5.cell? ⟨K.g, 3, none⟩ = some evv := bG.cell 3)
  all_goals
    go_wp2_with fail
    go_ret
    obtain ⟨e1, e2⟩ := H2.out.event (e := (i, a, x)) (evv' := .slice (some ⟨gg, 0, none⟩) (s.ev.length + 1) cap4) hgr hown (by
      rcases hat with z | z
      · left; rw [z]; rfl
      · right; rw [z]; simp [Value.ownBlock])
    refine ⟨rfl, _, _, _, (e1.same (s' := s') rfl rfl HE.out.1 rfl), ?_⟩
    have hk := (HW2.out.grown hgr (fun k q => by rw [H2.out.lab.e k q]; decide)).setCell (a := ⟨K.g, 3, none⟩) (.inl (by rw [H2.out.lab.g]; decide)) (.slice (some ⟨gg, 0, none⟩) (s.ev.length + 1) cap4)
    exact Went.new0 hk (by simp; omega) e2
end
end Go.Proofs.Ytodejloonfkkmaa.Dir
