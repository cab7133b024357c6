/-
  Events, in memory; the reference of machine, walked: are events alike, and runs.
  A run's state, in memory, as it is made: a variable more; an array more.
  The reference of machine, walked: a program is run.
  The reference of machine, walked: a program that may be run is run.
  What the functions of machine come to: the reference's, and what is asked of the package's.
-/
import Derived.Test.YtodejloonfkkmaaMachJ
import Derived.Deep.QuietTactic
import Derived.Laws.MakeOwn
import Derived.Deep.RegionLaw
import Derived.Deep.AppendLies
set_option linter.unusedVariables false
namespace Go.Proofs.Ytodejloonfkkmaa.Mach
open Go.RowKit Mem _root_.Go.Proofs.Ytodejloonfkkmaa.Arena _root_.Go.Proofs.Ytodejloonfkkmaa.Kinds _root_.Go.Proofs.Ytodejloonfkkmaa.Path _root_.Go.Proofs.Ytodejloonfkkmaa.Cat _root_.Go.Proofs.Ytodejloonfkkmaa.Suite
attribute [local go_sem ↓] Go.wp_at_zero Go.wp_at_succ

/-- Events that lie in a row, all below B. -/
def ERow (w : World) (B : Nat) (A : Option Addr) (l : List (Int × Int × Int)) : Prop :=
  ∀ (i : Nat) (e : Int × Int × Int), l[i]? = some e → ∃ ad, A = some ad ∧ ad.block < B ∧ w.cell? (ad.add (i * 3)) = some (.int .i64 e.1) ∧
    w.cell? ⟨(ad.add (i * 3)).block, (ad.add (i * 3)).off + 1, none⟩ = some (.int .i64 e.2.1) ∧ w.cell? ⟨(ad.add (i * 3)).block, (ad.add (i * 3)).off + 2, none⟩ = some (.int .i64 e.2.2)
theorem ERow.below {w w' : World} {B : Nat} {A : Option Addr} {l : List (Int × Int × Int)} (h : ERow w B A l) (hb : Below B w w') : ERow w' B A l := by
  intro i b hi
  obtain ⟨ad, e, h1, h3, h4, h5⟩ := h i b hi
  have hk := hb.block (ad.add (i * 3)).block (by rw [add_blockN]; exact h1)
  refine ⟨ad, e, h1, ?_, ?_, ?_⟩
  · rw [← h3]; unfold World.cell?; rw [hk]
  · rw [← h4]; unfold World.cell?; rw [hk]
  · rw [← h5]; unfold World.cell?; rw [hk]
theorem ERow.at {w w' : World} {A : Option Addr} {l : List (Int × Int × Int)} (h : ERow w w.heap.size A l) (hb : Below w.heap.size w w') : ERow w' w'.heap.size A l := by
  intro i b hi
  obtain ⟨ad, e, h1, r⟩ := (h.below hb) i b hi
  exact ⟨ad, e, Nat.lt_of_lt_of_le h1 hb.size, r⟩
theorem ERow.nil (w : World) (B : Nat) (A : Option Addr) : ERow w B A [] := fun i e h => by simp at h
theorem ERow.take {w : World} {B : Nat} {A : Option Addr} {l : List (Int × Int × Int)} (h : ERow w B A l) (n : Nat) : ERow w B A (l.take n) := fun i e hi => by
  rw [List.getElem?_take] at hi
  split at hi
  · exact h i e hi
  · cases hi
theorem ecells_get : ∀ (l : List (Int × Int × Int)) (i : Nat) (e : Int × Int × Int), l[i]? = some e → (ecells l)[i * 3]? = some (.int .i64 e.1) ∧ (ecells l)[i * 3 + 1]? = some (.int .i64 e.2.1) ∧ (ecells l)[i * 3 + 2]? = some (.int .i64 e.2.2)
  | [], i, e, h => by simp at h
  | x :: l, 0, e, h => by
    obtain rfl : x = e := by simpa using h
    exact ⟨rfl, rfl, rfl⟩
  | x :: l, i + 1, e, h => by
    have ih := ecells_get l i e (by simpa using h)
    have hc : ecells (x :: l) = ecell x ++ ecells l := rfl
    have hl : (ecell x).length = 3 := rfl
    rw [hc]
    refine ⟨?_, ?_, ?_⟩
    · rw [List.getElem?_append_right (by omega), hl, show (i + 1) * 3 - 3 = i * 3 by omega]; exact ih.1
    · rw [List.getElem?_append_right (by omega), hl, show (i + 1) * 3 + 1 - 3 = i * 3 + 1 by omega]; exact ih.2.1
    · rw [List.getElem?_append_right (by omega), hl, show (i + 1) * 3 + 2 - 3 = i * 3 + 2 by omega]; exact ih.2.2
theorem own_events {w : World} {base : Nat} {v : Value} {l : List (Int × Int × Int)} (h : w.ownsRow base 64 3 v l.length (ecells l)) :
    ∃ A c, v = .slice A l.length c ∧ l.length ≤ c ∧ (A = none → c = 0) ∧ ERow w w.heap.size A l ∧ ∀ ad, A = some ad → base ≤ ad.block := by
  have hc := fun g hg => h.cells (g := g) hg
  rcases h.2 with ⟨rfl, h0⟩ | ⟨g, cap, cur, rfl, hb, hg, hn, -⟩
  · obtain rfl := List.length_eq_zero_iff.1 h0
    exact ⟨none, 0, rfl, Nat.le_refl _, fun _ => rfl, ERow.nil _ _ _, fun ad e => by cases e⟩
  · refine ⟨_, _, rfl, hn, fun e => by simp at e, fun i x hx => ⟨_, rfl, (Array.getElem?_eq_some_iff.1 hg).1, ?_, ?_, ?_⟩, fun ad e => by cases e; exact hb⟩
    · exact hc g rfl _ _ (ecells_get l i x hx).1
    · have := hc g rfl _ _ (ecells_get l i x hx).2.1
      rw [add_off _ _ (by omega)] at this
      rw [← this]
      congr 1
      rcases Nat.eq_zero_or_pos i with rfl | hi
      · simp [Addr.add]
      · rw [add_off _ _ (by omega)]; simp
    · have := hc g rfl _ _ (ecells_get l i x hx).2.2
      rw [add_off _ _ (by omega)] at this
      rw [← this]
      congr 1
      rcases Nat.eq_zero_or_pos i with rfl | hi
      · simp [Addr.add]
      · rw [add_off _ _ (by omega)]; simp

set_option maxRecDepth 100000 in
set_option maxHeartbeats 2000000 in
theorem ref_Events_any (A : Option Addr) (cap : Nat) (xs : List (Int × Int × Int)) (A' : Option Addr) (cap' : Nat) (ys : List (Int × Int × Int)) (w : World) (hx : ERow w w.heap.size A xs) (hy : ERow w w.heap.size A' ys) (hlen : xs.length ≤ 1000000) :
    Calls Try.prog 15 #[.slice A xs.length cap, .slice A' ys.length cap'] w fun e w' => e = .returned (.bool (decide (xs = ys))) ∧ Below w.heap.size w w' := by
  by_cases hll : xs.length = ys.length
  · have HX := Lib.hid hx
    have HY := Lib.hid hy
    clear hx hy
    obtain ⟨n, hn⟩ : ∃ n, n = xs.length := ⟨_, rfl⟩
    have hn' : ys.length = n := by omega
    rw [hn', ← hn]
    have HN := Lib.hid hn
    have HN' := Lib.hid hn'
    rw [← hn] at hlen
    clear hn hn' hll
    go_enter Try.func15, Try.ntmps15
    go_wp2
    go_loopw [5] (fun i wr => ∃ k : Nat, k ≤ n ∧ xs.take k = ys.take k ∧ i = .int .i64 k ∧ Below w.heap.size w wr) (fun i _ => n - (intOf i).toNat)
    case atStart => exact ⟨0, by omega, rfl, rfl, Below.refl _ _⟩
    case round =>
      obtain ⟨k, hk, hs, rfl, hB⟩ := hrel
      by_cases hlt : k < n
      · obtain ⟨⟨x1, x2, x3⟩, hxk⟩ : ∃ x, xs[k]? = some x := ⟨_, List.getElem?_eq_getElem (show k < xs.length by rw [← HN.out]; exact hlt)⟩
        obtain ⟨⟨y1, y2, y3⟩, hyk⟩ : ∃ y, ys[k]? = some y := ⟨_, List.getElem?_eq_getElem (show k < ys.length by rw [HN'.out]; exact hlt)⟩
        obtain ⟨ad, rfl, hb, h0, h1, h2⟩ := (ERow.below HX.out hB) k _ hxk
        obtain ⟨ad', rfl, hb', g0, g1, g2⟩ := (ERow.below HY.out hB) k _ hyk
        simp only at h0 h1 h2 g0 g1 g2
        by_cases htu : x1 = y1
        · by_cases hdf : x2 = y2
          · by_cases hef : x3 = y3
            · have HS := Lib.hid (show xs.take (k + 1) = ys.take (k + 1) by rw [take_snoc xs k _ hxk, take_snoc ys k _ hyk, hs, htu, hdf, hef])
              subst htu hdf hef
              clear hxk hyk hs
              go_wp2
              go_quiet (fail)
              go_wp2
              go_roundw
              case rel => exact ⟨k + 1, by omega, HS.out, by go_num, belowN hB _⟩
              case measure => simp [intOf]; omega
            · have HS := Lib.hid (rows_differ hxk hyk (by simp; intro _ _; exact hef))
              have e2 : (x3 == y3) = false := by simpa using hef
              subst htu hdf
              clear hxk hyk hs hef
              go_wp2
              go_quiet (fail)
              go_wp2
              go_ret
              exact ⟨by rw [HS.out]; rfl, belowN hB _⟩
          · have HS := Lib.hid (rows_differ hxk hyk (by simp; intro _ q; exact absurd q hdf))
            have e2 : (x2 == y2) = false := by simpa using hdf
            subst htu
            clear hxk hyk hs hdf
            go_wp2
            go_quiet (fail)
            go_wp2
            go_ret
            exact ⟨by rw [HS.out]; rfl, belowN hB _⟩
        · have HS := Lib.hid (rows_differ hxk hyk (by simp; intro q; exact absurd q htu))
          have e2 : (x1 == y1) = false := by simpa using htu
          clear hxk hyk hs htu
          go_wp2
          go_quiet (fail)
          go_wp2
          go_ret
          exact ⟨by rw [HS.out]; rfl, belowN hB _⟩
      · have hk9 : k = n := by omega
        subst hk9
        have HF := Lib.hid (rows_alike hs HN.out HN'.out)
        clear hs
        go_wp2
        go_ret
        exact ⟨by rw [HF.out]; rfl, hB⟩
  · have HF := Lib.hid (show decide (xs = ys) = false by
      apply decide_eq_false
      rintro rfl
      exact hll rfl)
    have hne : ((xs.length : Int) == (ys.length : Int)) = false := by rw [beq_eq_false_iff_ne]; omega
    have hne2 : ((xs.length : Int) != (ys.length : Int)) = true := by simp; omega
    go_enter Try.func15, Try.ntmps15
    go_wp2
    go_ret
    exact ⟨by rw [HF.out]; rfl, Below.refl _ _⟩

/-- A run, as a value. -/
structure Rn where
  k : Int
  v : Int
  st : Int
  A : Option Addr
  c : Nat
  ev : List (Int × Int × Int)
def Rn.val (r : Rn) : Value := .agg #[.int .i64 r.k, .int .i64 r.v, .int .i64 r.st, .slice r.A r.ev.length r.c]
structure Rn.Ok (r : Rn) (w : World) : Prop where
  row : ERow w w.heap.size r.A r.ev
  cap : r.ev.length ≤ r.c
  none : r.A = none → r.c = 0
  len : r.ev.length ≤ 1000000
theorem Rn.Ok.at {r : Rn} {w w' : World} (h : r.Ok w) (hb : Below w.heap.size w w') : r.Ok w' := ⟨h.row.at hb, h.cap, h.none, h.len⟩
def Rn.zero : Rn := ⟨0, 0, 0, none, 0, []⟩
theorem Rn.zero_ok (w : World) : Rn.zero.Ok w := ⟨ERow.nil _ _ _, Nat.le_refl _, fun _ => rfl, by decide⟩
/-- Are they alike? -/
def Rn.same (r q : Rn) : Bool := decide (r.ev = q.ev) && (decide (r.k = q.k ∧ r.v = q.v) && decide (r.st = q.st))
theorem Rn.same_iff {r q : Rn} : r.same q = true ↔ r.ev = q.ev ∧ r.k = q.k ∧ r.v = q.v ∧ r.st = q.st := by
  unfold Rn.same
  rw [Bool.and_eq_true, Bool.and_eq_true, decide_eq_true_eq, decide_eq_true_eq, decide_eq_true_eq]
  exact ⟨fun h => ⟨h.1, h.2.1.1, h.2.1.2, h.2.2⟩, fun h => ⟨h.1, ⟨h.2.1, h.2.2.1⟩, h.2.2.2⟩⟩
set_option maxRecDepth 100000 in
set_option maxHeartbeats 2000000 in
theorem ref_MSame_any (r q : Rn) (w : World) (hr : r.Ok w) (hq : q.Ok w) :
    Calls Try.prog 10 #[r.val, q.val] w fun e w' => e = .returned (.bool (r.same q)) ∧ Below w.heap.size w w' := by
  have hb1 : Below w.heap.size w (w.alloc (.cells #[.int .i64 r.k, .int .i64 r.v, .int .i64 r.st, .slice r.A r.ev.length r.c] 32)) := (Below.refl _ _).alloc (Nat.le_refl _) _
  have hb2 := hb1.alloc hb1.size (.cells #[.int .i64 q.k, .int .i64 q.v, .int .i64 q.st, .slice q.A q.ev.length q.c] 32)
  have b1 := (Blk.new w 32 #[.int .i64 r.k, .int .i64 r.v, .int .i64 r.st, .slice r.A r.ev.length r.c]).alloc (.cells #[.int .i64 q.k, .int .i64 q.v, .int .i64 q.st, .slice q.A q.ev.length q.c] 32)
  have b2 := Blk.new (w.alloc (.cells #[.int .i64 r.k, .int .i64 r.v, .int .i64 r.st, .slice r.A r.ev.length r.c] 32)) 32 #[.int .i64 q.k, .int .i64 q.v, .int .i64 q.st, .slice q.A q.ev.length q.c]
  simp only [World.size_alloc] at b2
  have y1 : ((w.alloc (.cells #[.int .i64 r.k, .int .i64 r.v, .int .i64 r.st, .slice r.A r.ev.length r.c] 32)).alloc (.cells #[.int .i64 q.k, .int .i64 q.v, .int .i64 q.st, .slice q.A q.ev.length q.c] 32)).cell? ⟨w.heap.size, 3, none⟩ = some (.slice r.A r.ev.length r.c) := b1.cell 3
  have y2 : ((w.alloc (.cells #[.int .i64 r.k, .int .i64 r.v, .int .i64 r.st, .slice r.A r.ev.length r.c] 32)).alloc (.cells #[.int .i64 q.k, .int .i64 q.v, .int .i64 q.st, .slice q.A q.ev.length q.c] 32)).cell? ⟨w.heap.size + 1, 3, none⟩ = some (.slice q.A q.ev.length q.c) := b2.cell 3
  obtain ⟨w2, hw2⟩ : ∃ w2, (w.alloc (.cells #[.int .i64 r.k, .int .i64 r.v, .int .i64 r.st, .slice r.A r.ev.length r.c] 32)).alloc (.cells #[.int .i64 q.k, .int .i64 q.v, .int .i64 q.st, .slice q.A q.ev.length q.c] 32) = w2 := ⟨_, rfl⟩
  rw [hw2] at hb2 b1 b2
  have HW := Lib.hid hw2
  have HE := Lib.hid (ref_Events_any r.A r.c r.ev q.A q.c q.ev w2 (hr.row.at hb2) (hq.row.at hb2) hr.len)
  have HB := Lib.hid hb2
  have HX := Lib.hid (fun W (hb : Below w2.heap.size w2 W) => And.intro ((b1.below hb b1.lt).cell 0) (And.intro ((b1.below hb b1.lt).cell 1) (And.intro ((b1.below hb b1.lt).cell 2) (And.intro ((b2.below hb b2.lt).cell 0) (And.intro ((b2.below hb b2.lt).cell 1) ((b2.below hb b2.lt).cell 2))))))
  have hcell1 : w2.cell? ⟨w.heap.size, 3, none⟩ = some (.slice r.A r.ev.length r.c) := b1.cell 3
  have hcell2 : w2.cell? ⟨w.heap.size + 1, 3, none⟩ = some (.slice q.A q.ev.length q.c) := b2.cell 3
  obtain ⟨rk, rv, rst, rA, rc, rev⟩ := r
  obtain ⟨qk, qv, qst, qA, qc, qev⟩ := q
  have HS : Hid (Rn.same ⟨rk, rv, rst, rA, rc, rev⟩ ⟨qk, qv, qst, qA, qc, qev⟩ = (decide (rev = qev) && (decide (rk = qk ∧ rv = qv) && decide (rst = qst)))) := Lib.hid rfl
  generalize Rn.same ⟨rk, rv, rst, rA, rc, rev⟩ ⟨qk, qv, qst, qA, qc, qev⟩ = E at *
  unfold Rn.val
  simp only at *
  generalize decide (rev = qev) = ee at *
  clear hr hq hb1 hb2 b1 b2 hw2
  cases ee
  · have HF := Lib.hid (show E = false by rw [HS.out]; rfl)
    clear HS
    go_enter Try.func10, Try.ntmps10
    go_wp2_with (first | (go_at_call 15; rw [HW.out]; (with_reducible refine HE.out.mono ?_); rintro e w3 ⟨rfl, hb3⟩; obtain ⟨x0, x1, x2, z0, z1, z2⟩ := HX.out _ hb3) | fail)
    go_ret
    exact ⟨by rw [HF.out]; rfl, HB.out.trans (hb3.mono HB.out.size)⟩
  by_cases h1 : rk = qk
  · by_cases h2 : rv = qv
    · by_cases h3 : rst = qst
      · have HF := Lib.hid (show E = true by rw [HS.out, decide_eq_true ⟨h1, h2⟩, decide_eq_true h3]; rfl)
        clear HS
        subst h1 h2 h3
        go_enter Try.func10, Try.ntmps10
        go_wp2_with (first | (go_at_call 15; rw [HW.out]; (with_reducible refine HE.out.mono ?_); rintro e w3 ⟨rfl, hb3⟩; obtain ⟨x0, x1, x2, z0, z1, z2⟩ := HX.out _ hb3) | fail)
        go_ret
        exact ⟨by rw [HF.out]; rfl, HB.out.trans (hb3.mono HB.out.size)⟩
      · have HF := Lib.hid (show E = false by rw [HS.out, decide_eq_true ⟨h1, h2⟩, decide_eq_false h3]; rfl)
        have e3 : (rst == qst) = false := by simpa using h3
        clear HS
        subst h1 h2
        go_enter Try.func10, Try.ntmps10
        go_wp2_with (first | (go_at_call 15; rw [HW.out]; (with_reducible refine HE.out.mono ?_); rintro e w3 ⟨rfl, hb3⟩; obtain ⟨x0, x1, x2, z0, z1, z2⟩ := HX.out _ hb3) | fail)
        go_ret
        exact ⟨by rw [HF.out]; rfl, HB.out.trans (hb3.mono HB.out.size)⟩
    · have HF := Lib.hid (show E = false by rw [HS.out, decide_eq_false (fun z => h2 z.2)]; rfl)
      have e3 : (rv == qv) = false := by simpa using h2
      clear HS
      subst h1
      go_enter Try.func10, Try.ntmps10
      go_wp2_with (first | (go_at_call 15; rw [HW.out]; (with_reducible refine HE.out.mono ?_); rintro e w3 ⟨rfl, hb3⟩; obtain ⟨x0, x1, x2, z0, z1, z2⟩ := HX.out _ hb3) | fail)
      go_ret
      exact ⟨by rw [HF.out]; rfl, HB.out.trans (hb3.mono HB.out.size)⟩
  · have HF := Lib.hid (show E = false by rw [HS.out, decide_eq_false (fun z => h1 z.1)]; rfl)
    have e3 : (rk == qk) = false := by simpa using h1
    clear HS
    go_enter Try.func10, Try.ntmps10
    go_wp2_with (first | (go_at_call 15; rw [HW.out]; (with_reducible refine HE.out.mono ?_); rintro e w3 ⟨rfl, hb3⟩; obtain ⟨x0, x1, x2, z0, z1, z2⟩ := HX.out _ hb3) | fail)
    go_ret
    exact ⟨by rw [HF.out]; rfl, HB.out.trans (hb3.mono HB.out.size)⟩

end Go.Proofs.Ytodejloonfkkmaa.Mach

set_option linter.unusedVariables false
namespace Go.Proofs.Ytodejloonfkkmaa.Mach
open Go.RowKit Mem _root_.Go.Proofs.Ytodejloonfkkmaa.Arena _root_.Go.Proofs.Ytodejloonfkkmaa.Kinds _root_.Go.Proofs.Ytodejloonfkkmaa.Path _root_.Go.Proofs.Ytodejloonfkkmaa.Cat _root_.Go.Proofs.Ytodejloonfkkmaa.Suite

/-- The labels behind a row that grew. -/
def relabN (n : Nat) (κ : Nat → Nat) (v : Value) (k : Nat) : Nat := if v.ownBlock = some k then n else if κ k = n then 0 else κ k
section
variable {T : TypeId} {base g : Nat} {κ : Nat → Nat} {p : Prg} {vv av evv : Value} {Y : List ((Option Addr × Nat) × List Int)} {s : St} {W W' : World}
/-- A variable is put behind the others, and the struct told of it. -/
theorem SM.push_v (h : SM T base g κ p vv av evv Y s W) {vv' : Value} {x : Int} (hg : W.grownBy W' vv.ownBlock) (hO : W'.ownsRow base 3 1 vv' (s.vals ++ [x]).length (icells (s.vals ++ [x]))) (hat : vv'.ownBlock = vv.ownBlock ∨ vv'.ownBlock = some W.heap.size) :
    SM T base g (relabN 2 κ vv') p vv' av evv Y { s with vals := s.vals ++ [x] } (W'.setCell ⟨g, 3, Option.none⟩ vv') := by
  have hnew : ∀ k, vv'.ownBlock = some k → κ k = 2 ∨ (k = W.heap.size ∧ κ k = 0) := fun k q => by
    rcases hat with z | z
    · exact .inl (h.lab.v k (z ▸ q))
    · obtain rfl : W.heap.size = k := Option.some.inj (z.symm.trans q)
      refine .inr ⟨rfl, ?_⟩
      by_cases c : κ W.heap.size = 0
      · exact c
      · have := (h.lab.lt _ c).2; omega
  have hre : ∀ k, κ k ≠ 0 → κ k ≠ 2 → relabN 2 κ vv' k = κ k := fun k q1 q2 => by
    unfold relabN
    rw [if_neg (fun z => by rcases hnew k z with c | ⟨-, c⟩ <;> omega), if_neg q2]
  have hW : ∀ k, κ k ≠ 0 → κ k ≠ 2 → W'.heap[k]? = W.heap[k]? := fun k q1 q2 => hg.block k (h.lab.lt k q1).2 fun z => q2 (h.lab.v k z.symm)
  have hb : ∀ k, k ≠ g → (W'.setCell ⟨g, 3, Option.none⟩ vv').heap[k]? = W'.heap[k]? := fun k q => Below.heap_setCell _ _ _ _ fun z => q (by first | exact z | exact z.symm)
  have hng : ∀ k, κ k ≠ 1 → k ≠ g := fun k q z => q (by rw [z]; exact h.lab.g)
  have hall : ∀ k, κ k ≠ 0 → κ k ≠ 1 → κ k ≠ 2 → (W'.setCell ⟨g, 3, Option.none⟩ vv').heap[k]? = W.heap[k]? := fun k q1 q2 q3 => (hb k (hng k q2)).trans (hW k q1 q3)
  have hsz : W.heap.size ≤ (W'.setCell ⟨g, 3, Option.none⟩ vv').heap.size := by have := hg.size; simpa using this
  have hB : Blk W' g T (stcells p vv av evv s) := (hW g (by rw [h.lab.g]; decide) (by rw [h.lab.g]; decide)).trans h.blk
  exact {
    lab := {
      g := by rw [hre g (by rw [h.lab.g]; decide) (by rw [h.lab.g]; decide)]; exact h.lab.g
      v := fun k e => by unfold relabN; rw [if_pos e]
      a := fun k e => by have := h.lab.a k e; rw [hre k (by omega) (by omega)]; exact this
      e := fun k e => by have := h.lab.e k e; rw [hre k (by omega) (by omega)]; exact this
      y := fun i y k q e => by have := h.lab.y i y k q e; rw [hre k (by omega) (by omega)]; exact this
      lt := fun k q => by
        unfold relabN at q
        split at q
        · next z =>
          have := hO.lt k z
          exact ⟨this.1, by simpa using this.2⟩
        · split at q
          · exact absurd rfl q
          · exact ⟨(h.lab.lt k q).1, Nat.lt_of_lt_of_le (h.lab.lt k q).2 hsz⟩ }
    blk := hB.set 3 vv'
    vr := own_of_block hO fun k e => hb k (fun z => by
        have a := h.lab.g
        rw [← z] at a
        rcases hnew k e with c | ⟨-, c⟩ <;> omega)
    ar := own_of_block h.ar fun k e => by have := h.lab.a k e; exact hall k (by omega) (by omega) (by omega)
    hY := h.hY
    yr := fun i y q => own_of_block (h.yr i y q) fun k e => by have := h.lab.y i y k q e; exact hall k (by omega) (by omega) (by omega)
    er := own_of_block h.er fun k e => by have := h.lab.e k e; exact hall k (by omega) (by omega) (by omega) }
/-- The labels behind a new array. -/
def relabA (n : Nat) (κ : Nat → Nat) (av' : Value) (b k : Nat) : Nat := if b = k then 5 + n else relabN 3 κ av' k
/-- An array that was made is put behind the others, and the struct told of it. -/
theorem SM.push_a (h : SM T base g κ p vv av evv Y s W) {av' : Value} {b : Nat} {L : List Int} (hbn : κ b = 0) (hbW : b < W.heap.size) (hbb : base ≤ b) (hL : W.ownsRow base 3 1 (.slice (some ⟨b, 0, Option.none⟩) L.length L.length) L.length (icells L))
    (hg : W.grownBy W' av.ownBlock) (hO : W'.ownsRow base 22 1 av' (s.arrs ++ [L]).length (tcells (Y ++ [((some ⟨b, 0, Option.none⟩, L.length), L)]))) (hat : av'.ownBlock = av.ownBlock ∨ av'.ownBlock = some W.heap.size) :
    SM T base g (relabA Y.length κ av' b) p vv av' evv (Y ++ [((some ⟨b, 0, Option.none⟩, L.length), L)]) { s with arrs := s.arrs ++ [L] } (W'.setCell ⟨g, 4, Option.none⟩ av') := by
  have hnew : ∀ k, av'.ownBlock = some k → κ k = 3 ∨ (k = W.heap.size ∧ κ k = 0) := fun k q => by
    rcases hat with z | z
    · exact .inl (h.lab.a k (z ▸ q))
    · obtain rfl : W.heap.size = k := Option.some.inj (z.symm.trans q)
      refine .inr ⟨rfl, ?_⟩
      by_cases c : κ W.heap.size = 0
      · exact c
      · have := (h.lab.lt _ c).2; omega
  have hre : ∀ k, κ k ≠ 0 → κ k ≠ 3 → relabA Y.length κ av' b k = κ k := fun k q1 q2 => by
    unfold relabA relabN
    rw [if_neg (fun z => q1 (by rw [← z]; exact hbn)), if_neg (fun z => by rcases hnew k z with c | ⟨-, c⟩ <;> omega), if_neg q2]
  have hW : ∀ k, k < W.heap.size → κ k ≠ 3 → W'.heap[k]? = W.heap[k]? := fun k q1 q2 => hg.block k q1 fun z => q2 (h.lab.a k z.symm)
  have hb : ∀ k, k ≠ g → (W'.setCell ⟨g, 4, Option.none⟩ av').heap[k]? = W'.heap[k]? := fun k q => Below.heap_setCell _ _ _ _ fun z => q (by first | exact z | exact z.symm)
  have hng : ∀ k, κ k ≠ 1 → k ≠ g := fun k q z => q (by rw [z]; exact h.lab.g)
  have hall : ∀ k, κ k ≠ 0 → κ k ≠ 1 → κ k ≠ 3 → (W'.setCell ⟨g, 4, Option.none⟩ av').heap[k]? = W.heap[k]? := fun k q1 q2 q3 => (hb k (hng k q2)).trans (hW k (h.lab.lt k q1).2 q3)
  have hsz : W.heap.size ≤ (W'.setCell ⟨g, 4, Option.none⟩ av').heap.size := by have := hg.size; simpa using this
  have hB : Blk W' g T (stcells p vv av evv s) := (hW g h.glt.2 (by rw [h.lab.g]; decide)).trans h.blk
  have hat2 : ∀ m z, (Y ++ [((some ⟨b, 0, Option.none⟩, L.length), L)])[m]? = some z → Y[m]? = some z ∨ (m = Y.length ∧ z = ((some ⟨b, 0, Option.none⟩, L.length), L)) := fun m z q => by
    rcases Nat.lt_or_ge m Y.length with c | c
    · rw [List.getElem?_append_left c] at q; exact .inl q
    · rw [List.getElem?_append_right c] at q
      have hm : m - Y.length = 0 := by
        have := (List.getElem?_eq_some_iff.1 q).1
        simpa using this
      rw [hm] at q
      exact .inr ⟨by omega, by simpa using q.symm⟩
  exact {
    lab := {
      g := by rw [hre g (by rw [h.lab.g]; decide) (by rw [h.lab.g]; decide)]; exact h.lab.g
      v := fun k e => by have := h.lab.v k e; rw [hre k (by omega) (by omega)]; exact this
      a := fun k e => by
        unfold relabA relabN
        rw [if_neg (fun z => by rcases hnew k e with c | ⟨c, -⟩
                                · rw [← z, hbn] at c; omega
                                · omega), if_pos e]
      e := fun k e => by have := h.lab.e k e; rw [hre k (by omega) (by omega)]; exact this
      y := fun i y k q e => by
        rcases hat2 i y q with q | ⟨rfl, rfl⟩
        · have := h.lab.y i y k q e; rw [hre k (by omega) (by omega)]; exact this
        · obtain rfl : b = k := Option.some.inj e
          unfold relabA
          rw [if_pos rfl]
      lt := fun k q => by
        unfold relabA at q
        split at q
        · next z => subst z; exact ⟨hbb, Nat.lt_of_lt_of_le hbW hsz⟩
        · unfold relabN at q
          split at q
          · next z =>
            have := hO.lt k z
            exact ⟨this.1, by simpa using this.2⟩
          · split at q
            · exact absurd rfl q
            · exact ⟨(h.lab.lt k q).1, Nat.lt_of_lt_of_le (h.lab.lt k q).2 hsz⟩ }
    blk := hB.set 4 av'
    vr := own_of_block h.vr fun k e => by have := h.lab.v k e; exact hall k (by omega) (by omega) (by omega)
    ar := own_of_block hO fun k e => hb k (fun z => by
        have a := h.lab.g
        rw [← z] at a
        rcases hnew k e with c | ⟨-, c⟩ <;> omega)
    hY := by rw [List.map_append, h.hY]; rfl
    yr := fun i y q => by
      rcases hat2 i y q with q | ⟨rfl, rfl⟩
      · exact own_of_block (h.yr i y q) fun k e => by have := h.lab.y i y k q e; exact hall k (by omega) (by omega) (by omega)
      · refine own_of_block hL fun k e => ?_
        obtain rfl : b = k := Option.some.inj e
        exact (hb b (hng b (by omega))).trans (hW b hbW (by omega))
    er := own_of_block h.er fun k e => by have := h.lab.e k e; exact hall k (by omega) (by omega) (by omega) }
end
end Go.Proofs.Ytodejloonfkkmaa.Mach

set_option linter.unusedVariables false
namespace Go.Proofs.Ytodejloonfkkmaa.Mach
open Go.RowKit Mem _root_.Go.Proofs.Ytodejloonfkkmaa.Arena _root_.Go.Proofs.Ytodejloonfkkmaa.Kinds _root_.Go.Proofs.Ytodejloonfkkmaa.Path _root_.Go.Proofs.Ytodejloonfkkmaa.Cat _root_.Go.Proofs.Ytodejloonfkkmaa.Suite
attribute [local go_sem ↓] Go.wp_at_zero Go.wp_at_succ

set_option maxRecDepth 100000 in
set_option maxHeartbeats 2000000 in
theorem ref_MRun_bad (p : Prg) (A : Option Addr) (c : Nat) (args : List Int) (f : Int) (w : World) (hp : p.Ok w) (hm : mcheck p.ps p.vs p.xs args.length f ≠ 0) :
    Calls Try.prog 9 #[.agg #[.int .i64 p.ps, .slice p.A p.vs.length p.c, .slice p.B p.xs.length p.e], .slice A args.length c, .int .i64 f] w fun e w' => e = .returned (.tuple #[Rn.zero.val, .int .i64 (mcheck p.ps p.vs p.xs args.length f)]) ∧ Below w.heap.size w w' := by
  have hb0 : Below w.heap.size w (w.alloc (.cells #[.int .i64 p.ps, .slice p.A p.vs.length p.c, .slice p.B p.xs.length p.e] 25)) := (Below.refl _ _).alloc (Nat.le_refl _) _
  have hb1 := hb0.alloc hb0.size (.cells #[.int .i64 0, .int .i64 0, .int .i64 0, .slice none 0 0] 32)
  have bX := (Blk.new w 25 #[.int .i64 p.ps, .slice p.A p.vs.length p.c, .slice p.B p.xs.length p.e]).alloc (.cells #[.int .i64 0, .int .i64 0, .int .i64 0, .slice none 0 0] 32)
  have bR := Blk.new (w.alloc (.cells #[.int .i64 p.ps, .slice p.A p.vs.length p.c, .slice p.B p.xs.length p.e] 25)) 32 #[.int .i64 0, .int .i64 0, .int .i64 0, .slice none 0 0]
  simp only [World.size_alloc] at bR
  obtain ⟨x0, x1, x2⟩ := bX.three
  obtain ⟨w1, hw1⟩ : ∃ w1, (w.alloc (.cells #[.int .i64 p.ps, .slice p.A p.vs.length p.c, .slice p.B p.xs.length p.e] 25)).alloc (.cells #[.int .i64 0, .int .i64 0, .int .i64 0, .slice none 0 0] 32) = w1 := ⟨_, rfl⟩
  rw [hw1] at hb1 bX bR
  have HC := Lib.hid (ref_MCheck_any p A c args f w1 (hp.at hb1))
  have HW := Lib.hid hw1
  have HB := Lib.hid hb1
  have HR := Lib.hid (fun W (hb : Below w1.heap.size w1 W) => bR.below hb bR.lt)
  generalize mcheck p.ps p.vs p.xs args.length f = E at *
  have e1 : (E != 0) = true := by simpa using hm
  clear hp hb0 hb1 bX bR hw1
  go_enter Try.func9, Try.ntmps9
  go_wp2_with (first
    | (go_at_call 21; rw [HW.out]; (with_reducible refine HC.out.mono ?_); rintro e w3 ⟨rfl, hb3⟩
       have bR3 := HR.out _ hb3
       have r0 := bR3.cell 0
       have r1 := bR3.cell 1
       have r2 := bR3.cell 2
       have r3 := bR3.cell 3
       have rf := bR3.frozen)
    | fail)
  refine bodyPost_ret (v := .tuple #[Rn.zero.val, .int .i64 E]) (by simp [results, Try.results9, go_sem, r0, r1, r2, r3, Rn.zero, Rn.val]) rfl ?_
  exact ⟨rfl, ((((HB.out.trans (hb3.mono HB.out.size)).setCell (p := ⟨w.heap.size + 1, 0, none⟩) (Nat.le_succ _) _).setCell (p := ⟨w.heap.size + 1, 1, none⟩) (Nat.le_succ _) _).setCell (p := ⟨w.heap.size + 1, 2, none⟩) (Nat.le_succ _) _).setCell (p := ⟨w.heap.size + 1, 3, none⟩) (Nat.le_succ _) _⟩

/-- The state that a run begins with, its first k variables made. -/
def part_ (vs args : List Int) (f k : Nat) : St := { begin_ vs args f with vals := (begin_ vs args f).vals.take k, arrs := (begin_ vs args f).arrs.take k }
theorem part_all (vs args : List Int) (f : Nat) : part_ vs args f vs.length = begin_ vs args f := by
  unfold part_
  rw [List.take_of_length_le (by unfold begin_; simp), List.take_of_length_le (by unfold begin_; simp)]
theorem part_succ (vs args : List Int) (f : Nat) {k : Nat} {t : Int} (h : vs[k]? = some t) : part_ vs args f (k + 1) = { { part_ vs args f k with vals := (part_ vs args f k).vals ++ [args.getD k 0] } with arrs := (part_ vs args f k).arrs ++ [List.replicate (asz t).toNat 0] } := by
  have hk := (List.getElem?_eq_some_iff.1 h).1
  unfold part_
  have h1 : (begin_ vs args f).vals[k]? = some (args.getD k 0) := by
    unfold begin_
    simp only
    rw [List.getElem?_map, List.getElem?_range hk]; rfl
  have h2 : (begin_ vs args f).arrs[k]? = some (List.replicate (asz t).toNat 0) := by
    unfold begin_
    simp only
    rw [List.getElem?_map, h]; rfl
  rw [take_one h1, take_one h2]
theorem part_len (vs args : List Int) (f : Nat) {k : Nat} (h : k ≤ vs.length) : (part_ vs args f k).vals.length = k ∧ (part_ vs args f k).arrs.length = k := by
  unfold part_ begin_
  simp only [List.length_take, List.length_map, List.length_range]
  omega
/-- A state that was just made. -/
theorem SM.new (T : TypeId) (p : Prg) (f : Nat) (w : World) : SM T w.heap.size w.heap.size (fun k => if k = w.heap.size then 1 else 0) p (.slice Option.none 0 0) (.slice Option.none 0 0) (.slice Option.none 0 0) [] ⟨[], [], f, 0, [], 0, 0, false⟩ (w.alloc (.cells (stcells p (.slice Option.none 0 0) (.slice Option.none 0 0) (.slice Option.none 0 0) ⟨[], [], f, 0, [], 0, 0, false⟩) T)) where
  lab := {
    g := if_pos rfl
    v := fun k e => by cases e
    a := fun k e => by cases e
    e := fun k e => by cases e
    y := fun i y k q e => by simp at q
    lt := fun k q => by
      by_cases z : k = w.heap.size
      · subst z; simp
      · rw [if_neg z] at q; exact absurd rfl q }
  blk := Blk.new _ _ _
  vr := World.ownsRow_nil _ _ _ _
  ar := World.ownsRow_nil _ _ _ _
  hY := rfl
  yr := fun i y q => by simp at q
  er := World.ownsRow_nil _ _ _ _
section
variable {T : TypeId} {base g : Nat} {κ : Nat → Nat} {p : Prg} {vv evv : Value} {Y : List ((Option Addr × Nat) × List Int)} {s : St}
/-- An array of noughts is made and put behind the others. -/
theorem SM.push_arr {A0 : Option Addr} {n c0 : Nat} {w9 : World} (h : SM T base g κ p vv (.slice A0 n c0) evv Y s w9) (hn : s.arrs.length = n) {z gg cap : Nat} {w10 : World}
    (hown : w10.ownsRow base 22 1 (.slice (some ⟨gg, 0, Option.none⟩) (n + 1) cap) (n + 1) (tcells Y ++ [.slice (some ⟨w9.heap.size, 0, Option.none⟩) z z]))
    (hgr : ((w9.alloc (.cells (madeCells #[.int .i64 0] z) 3)).alloc (.cells #[.slice (some ⟨w9.heap.size, 0, Option.none⟩) z z] 22)).grownBy w10 (Value.slice A0 n c0).ownBlock)
    (hat : (Value.slice A0 n c0).ownBlock = some gg ∨ gg = w9.heap.size + 2) (hz : z ≤ maxLen) :
    ∃ κ' Y', SM T base g κ' p vv (.slice (some ⟨gg, 0, Option.none⟩) (n + 1) cap) evv Y' { s with arrs := s.arrs ++ [List.replicate z 0] } (w10.setCell ⟨g, 4, Option.none⟩ (.slice (some ⟨gg, 0, Option.none⟩) (n + 1) cap)) := by
  have hbw : base ≤ w9.heap.size := by have := h.glt; omega
  have hz0 : κ w9.heap.size = 0 := by
    by_cases c : κ w9.heap.size = 0
    · exact c
    · have := (h.lab.lt _ c).2; omega
  have hb1 : Below w9.heap.size w9 (w9.alloc (.cells (madeCells #[.int .i64 0] z) 3)) := (Below.refl _ _).alloc (Nat.le_refl _) _
  have hb2 : Below (w9.alloc (.cells (madeCells #[.int .i64 0] z) 3)).heap.size (w9.alloc (.cells (madeCells #[.int .i64 0] z) 3)) ((w9.alloc (.cells (madeCells #[.int .i64 0] z) 3)).alloc (.cells #[.slice (some ⟨w9.heap.size, 0, Option.none⟩) z z] 22)) := (Below.refl _ _).alloc (Nat.le_refl _) _
  have hSa := (h.below hb1).below hb2
  have hL := World.ownsRow_lit (e := 3) (size := 1) (base := base) w9 (madeCells #[.int .i64 0] z) z hbw hz (by rw [size_madeCells, Nat.mul_one])
  rw [toList_madeCells_one] at hL
  have hL2 := hL.alloc (.cells #[.slice (some ⟨w9.heap.size, 0, Option.none⟩) z z] 22)
  have hlen : (List.replicate z (0 : Int)).length = z := List.length_replicate
  have e1 : tcells (Y ++ [((some ⟨w9.heap.size, 0, Option.none⟩, (List.replicate z (0 : Int)).length), List.replicate z 0)]) = tcells Y ++ [.slice (some ⟨w9.heap.size, 0, Option.none⟩) z z] := by
    rw [tcells_snoc]; simp [hlen]
  have := hSa.push_a (b := w9.heap.size) (L := List.replicate z 0) (av' := .slice (some ⟨gg, 0, Option.none⟩) (n + 1) cap) hz0 (by simp; omega) hbw
    (by rw [hlen]; simpa [icells] using hL2) hgr (by rw [e1, List.length_append, hn]; exact hown)
    (by rcases hat with q | q
        · exact .inl q.symm
        · right; show some gg = some _; rw [q]; simp)
  exact ⟨_, _, this⟩
end
end Go.Proofs.Ytodejloonfkkmaa.Mach

set_option linter.unusedVariables false
namespace Go.Proofs.Ytodejloonfkkmaa.Mach
open Go.RowKit Mem _root_.Go.Proofs.Ytodejloonfkkmaa.Arena _root_.Go.Proofs.Ytodejloonfkkmaa.Kinds _root_.Go.Proofs.Ytodejloonfkkmaa.Path _root_.Go.Proofs.Ytodejloonfkkmaa.Cat _root_.Go.Proofs.Ytodejloonfkkmaa.Suite
attribute [local go_sem ↓] Go.wp_at_zero Go.wp_at_succ

theorem ERow.far {w : World} {B : Nat} {A : Option Addr} {l : List (Int × Int × Int)} {g : Nat} (h : ERow w B A l) (i : Nat) (v : Value) (hA : ∀ ad, A = some ad → ad.block ≠ g) : ERow (w.setCell ⟨g, i, none⟩ v) B A l := by
  intro j x hx
  obtain ⟨ad, e, hlt, q, q1, q2⟩ := h j x hx
  have hk : ∀ a : Addr, a.block = ad.block → (w.setCell ⟨g, i, none⟩ v).cell? a = w.cell? a := fun a ha => World.cell?_of_block (Below.heap_setCell _ _ _ _ (by rw [ha]; exact hA ad e))
  exact ⟨ad, e, hlt, (hk _ (add_blockN _ _)).trans q, (hk ⟨(ad.add (j * 3)).block, (ad.add (j * 3)).off + 1, Option.none⟩ (add_blockN _ _)).trans q1, (hk ⟨(ad.add (j * 3)).block, (ad.add (j * 3)).off + 2, Option.none⟩ (add_blockN _ _)).trans q2⟩
/-- What a run comes to. -/
def REnds (vs : List Int) (xs : List Nd) (args : List Int) (f : Nat) (w : World) (e : Ending) (w' : World) : Prop :=
  Below w.heap.size w w' ∧ ∃ A c, e = .returned (.tuple #[(Rn.mk (mrun vs xs args f).kind (mrun vs xs args f).value (mrun vs xs args f).steps A c (mrun vs xs args f).ev).val, .int .i64 0]) ∧ (Rn.mk (mrun vs xs args f).kind (mrun vs xs args f).value (mrun vs xs args f).steps A c (mrun vs xs args f).ev).Ok w'

set_option maxRecDepth 100000 in
set_option maxHeartbeats 8000000 in
theorem ref_MRun_good (p : Prg) (A : Option Addr) (c : Nat) (args : List Int) (fn : Nat) (w : World) (hp : p.Ok w) (hA : IRow w w.heap.size A args) (hm : MRight p.ps p.vs p.xs args.length (fn : Int)) :
    Calls Try.prog 9 #[.agg #[.int .i64 p.ps, .slice p.A p.vs.length p.c, .slice p.B p.xs.length p.e], .slice A args.length c, .int .i64 (fn : Int)] w (REnds p.vs p.xs args fn w) := by
  have hb0 : Below w.heap.size w (w.alloc (.cells #[.int .i64 p.ps, .slice p.A p.vs.length p.c, .slice p.B p.xs.length p.e] 25)) := (Below.refl _ _).alloc (Nat.le_refl _) _
  have hb1 := hb0.alloc hb0.size (.cells #[.int .i64 0, .int .i64 0, .int .i64 0, .slice none 0 0] 32)
  have bX := (Blk.new w 25 #[.int .i64 p.ps, .slice p.A p.vs.length p.c, .slice p.B p.xs.length p.e]).alloc (.cells #[.int .i64 0, .int .i64 0, .int .i64 0, .slice none 0 0] 32)
  have bR := Blk.new (w.alloc (.cells #[.int .i64 p.ps, .slice p.A p.vs.length p.c, .slice p.B p.xs.length p.e] 25)) 32 #[.int .i64 0, .int .i64 0, .int .i64 0, .slice none 0 0]
  simp only [World.size_alloc] at bR
  obtain ⟨x0, x1, x2⟩ := bX.three
  obtain ⟨w1, hw1⟩ : ∃ w1, (w.alloc (.cells #[.int .i64 p.ps, .slice p.A p.vs.length p.c, .slice p.B p.xs.length p.e] 25)).alloc (.cells #[.int .i64 0, .int .i64 0, .int .i64 0, .slice none 0 0] 32) = w1 := ⟨_, rfl⟩
  rw [hw1] at hb1 bX bR
  have HC := Lib.hid (ref_MCheck_any p A c args fn w1 (hp.at hb1))
  rw [mcheck_zero.2 hm] at HC
  have HW := Lib.hid hw1
  have HB := Lib.hid hb1
  have HR := Lib.hid (fun W (hb : Below w1.heap.size w1 W) => bR.below hb bR.lt)
  have HX := Lib.hid (fun W (hb : Below w1.heap.size w1 W) => (bX.below hb bX.lt).three)
  have HA := Lib.hid (fun W (hb : Below w1.heap.size w1 W) => IRow.below (hA.at hb1) hb)
  have HPK := Lib.hid (fun W (hb : Below w1.heap.size w1 W) => (hp.at hb1).at hb)
  have hlt1 := bX.lt
  have hnv := hm.nv
  have har := hm.args
  have HM := Lib.hid hm
  have hf1 : fn ≤ 10000 := by have := hm.f1; omega
  clear hp hb0 hb1 bX bR hw1 hA hm
  go_enter Try.func9, Try.ntmps9
  go_wp2_with (first
    | (go_at_call 21; rw [HW.out]; (with_reducible refine HC.out.mono ?_); rintro e w3 ⟨rfl, hb3⟩
       obtain ⟨b0, b1, b2⟩ := HX.out _ hb3)
    | fail)
  have hS0 := SM.new 57 p fn w3
  have hbS : Below w3.heap.size w3 (w3.alloc (.cells (stcells p (.slice none 0 0) (.slice none 0 0) (.slice none 0 0) ⟨[], [], fn, 0, [], 0, 0, false⟩) 57)) := (Below.refl _ _).alloc (Nat.le_refl _) _
  go_loopw [10] (fun i wr => ∃ k : Nat, k ≤ p.vs.length ∧ i = .int .i64 k ∧ ∃ κ vv av Y, SM 57 w3.heap.size w3.heap.size κ p vv av (.slice none 0 0) Y (part_ p.vs args fn k) wr ∧ Below w3.heap.size w3 wr) (fun i _ => p.vs.length - (intOf i).toNat)
  case atStart => exact ⟨0, by omega, rfl, _, _, _, _, hS0, hbS⟩
  case round =>
    clear hS0 hbS
    obtain ⟨k, hk, rfl, κ, vv, av, Y, hS, hbw⟩ := hrel
    have hB1 := hb3.trans (hbw.mono hb3.size)
    obtain ⟨b0, b1, b2⟩ := HX.out _ hB1
    obtain ⟨hl1, hl2⟩ := part_len p.vs args fn hk
    by_cases hlt : k < p.vs.length
    · obtain ⟨t, ht⟩ : ∃ t, p.vs[k]? = some t := ⟨_, List.getElem?_eq_getElem hlt⟩
      obtain ⟨pad, hpA, hpb, pk⟩ := (HPK.out _ hB1).vars k t ht
      have htg := HM.out.good hlt
      rw [List.getD_eq_getElem?_getD, ht] at htg
      simp only [Option.getD_some] at htg
      have hz : 0 ≤ asz t ∧ asz t ≤ 8 := by unfold asz; split <;> omega
      obtain ⟨z, hzn⟩ := Int.eq_ofNat_of_zero_le hz.1
      have i1 : (k : Int) < (p.vs.length : Int) := by omega
      have i2 : (0 : Int) ≤ (k : Int) := by omega
      have i5 : IntKind.i64.wrap ((k : Int) + 1) = (k : Int) + 1 := IntWalk.i64_in _ (by omega)
      have g3 : wr.cell? ⟨w3.heap.size, 3, none⟩ = some vv := hS.cell 3
      have HPS := Lib.hid (part_succ p.vs args fn ht)
      obtain ⟨ig, hig, hz0, hz1, hz2⟩ := info_parts info_int
      have hgw := hS.glt.2
      rw [hpA] at b1
      generalize part_ p.vs args fn k = s at *
      generalize hav : args.getD k 0 = a at *
      have hW1 : Below wr.heap.size wr (wr.alloc (.cells #[.int .i64 a] 3)) := (Below.refl _ _).alloc (Nat.le_refl _) _
      have hS1 := hS.below hW1
      have HS1 := Lib.hid hS1
      have hO1 := hS1.vr
      have HNB := Lib.hid (heap_alloc_new wr (.cells #[.int .i64 a] 3))
      have hsz1 : w3.heap.size ≤ (wr.alloc (.cells #[.int .i64 a] 3)).heap.size := by rw [World.size_alloc]; omega
      have HPV := Lib.hid (fun W (hb : Below w1.heap.size w1 W) => show W.cell? (pad.add k) = some (.int .i64 t) from by
        obtain ⟨pd, e, -, q⟩ := (HPK.out W hb).vars k t ht
        rw [hpA] at e; cases e; exact q)
      have HSZ := Lib.hid (fun W => show Calls Try.prog 22 #[.int .i64 t] W fun e w' => e = .returned (.int .i64 (z : Int)) ∧ w' = W from by rw [← hzn]; exact ref_Size_any t W)
      have hmk : ∀ W : World, (Instr.makeSlice 22 (.int .i64 (z : Int)) (.int .i64 (z : Int))).run Try.prog W = .ok (.slice (some ⟨W.heap.size, 0, none⟩) z z) (W.alloc (.cells (madeCells #[.int .i64 0] z) 3)) := fun W => by
        have := run_make (P := Try.prog) W 22 3 ig _ Try.underlying22 hig hz0 .i64 .i64 (z : Int) (z : Int) (by omega) (by omega) (by rw [hz2]; omega) (by omega)
        rw [hz1, Int.toNat_natCast, Nat.mul_one] at this
        exact this
      have hz8 : z ≤ 8 := by omega
      have HPS2 : Hid (part_ p.vs args fn (k + 1) = { { s with vals := s.vals ++ [a] } with arrs := s.arrs ++ [List.replicate z 0] }) := Lib.hid (by rw [HPS.out, hzn, Int.toNat_natCast])
      clear hS1 ht htg hz hzn HPS
      by_cases hka : k < args.length
      · obtain ⟨a', ha⟩ : ∃ a, args[k]? = some a := ⟨_, List.getElem?_eq_getElem hka⟩
        obtain rfl : a' = a := by rw [← hav, List.getD_eq_getElem?_getD, ha]; rfl
        obtain ⟨ad, rfl, hab, ak⟩ := HA.out _ hB1 k a' ha
        have j1 : (k : Int) < (args.length : Int) := by omega
        clear ha hav
        go_wp2_with (first
          | (at_builtin; refine wpList_append_own_at _ rfl _ _ 22 rfl w3.heap.size 3 ig (.int .i64 0) 1 8 Try.underlying22 hig hz0 hz1 hz2 rfl (by decide) _ s.vals.length _ rfl hO1 ⟨wr.heap.size, 0, none⟩ 1 1 [.int .i64 a'] rfl rfl (World.news_of_block (cs := #[.int .i64 a']) (t := 3) (fr := (0, 0)) HNB.out) (by simp [Value.oneCell']) (by simp only [maxLen]; omega) (by omega) hsz1 ?_; intro v7 w7 hown hg _ hat
             obtain ⟨b', cap', rfl, hb'⟩ := own_block hown (by omega)
             have bG := HS1.out.blk.grown hg (fun q => by have q := HS1.out.lab.v _ q.symm; rw [HS1.out.lab.g] at q; omega)
             have y3 := bG.cell 3
             have yf := bG.frozen 3)
          | fail)
        have hS2 := HS1.out.push_v (x := a') hg (by rw [List.length_append, icells_snoc]; exact hown) hat
        rw [hl1] at hS2
        have hbw8 : Below w3.heap.size w3 (w7.setCell ⟨w3.heap.size, 3, none⟩ (.slice (some ⟨b', 0, none⟩) (k + 1) cap')) := ((hbw.trans (hW1.mono hbw.size)).grown hg (Nat.le_trans hbw.size hW1.size) (fun i e => (hO1.lt i e).1)).setCell (p := ⟨w3.heap.size, 3, none⟩) (Nat.le_refl _) _
        obtain ⟨w8, hw8⟩ : ∃ w8, w7.setCell ⟨w3.heap.size, 3, none⟩ (.slice (some ⟨b', 0, none⟩) (k + 1) cap') = w8 := ⟨_, rfl⟩
        rw [hw8] at hS2 hbw8 ⊢
        clear hw8 y3 yf bG hg hown hat hb' HS1 hO1 HNB hsz1 hW1 b0 b1 b2 pk g3 hS hig hz0 hz1 hz2
        have hB8 := hb3.trans (hbw8.mono hb3.size)
        have hsz8 := hbw8.size
        obtain ⟨b0, b1, b2⟩ := HX.out _ hB8
        rw [hpA] at b1
        have pk := HPV.out _ hB8
        obtain ⟨A0, c0, rfl⟩ := Wire.owns_form hS2.ar
        have hl3 : s.arrs.length = k := hl2
        simp only [hl3] at hS2
        have y4 : w8.cell? ⟨w3.heap.size, 4, none⟩ = some (.slice A0 k c0) := hS2.cell 4
        have yf := hS2.blk.frozen 4
        obtain ⟨ig, hig, hz0, hz1, hz2⟩ := info_parts info_ints
        have HS2 := Lib.hid hS2
        have hlo := fun i hi => (hS2.ar.lt i hi)
        clear hS2
        go_region_law (first
          | (go_simp; go_at_call 22; (with_reducible refine (HSZ.out _).mono ?_); rintro e w9 ⟨rfl, hq⟩
             have hbe : Below w8.heap.size w8 w9 := by rw [hq]; exact (Below.refl _ _).drew
             have hS9 := HS2.out.below hbe
             have y4 : w9.cell? ⟨w3.heap.size, 4, none⟩ = some (.slice A0 k c0) := hS9.cell 4
             have hsz9 := hbe.size
             have y4a : (w9.alloc (.cells (madeCells #[.int .i64 0] z) 3)).cell? ⟨w3.heap.size, 4, none⟩ = some (.slice A0 k c0) := (hS9.below ((Below.refl _ _).alloc (Nat.le_refl _) _)).cell 4
             have y4b : ((w9.alloc (.cells (madeCells #[.int .i64 0] z) 3)).alloc (.cells #[.slice (some ⟨w9.heap.size, 0, none⟩) z z] 22)).cell? ⟨w3.heap.size, 4, none⟩ = some (.slice A0 k c0) := ((hS9.below ((Below.refl _ _).alloc (Nat.le_refl _) _)).below ((Below.refl _ _).alloc (Nat.le_refl _) _)).cell 4
             have hAR := hS9.ar
             simp only [hl3] at hAR
             clear hq)
          | (refine step_append_lies _ (by rfl) _ _ _ (by rfl) w3.heap.size 22 ig _ 1 24 Try.underlying49 hig hz0 hz1 hz2 rfl (by omega) _ k _ (by rfl) ((hAR.alloc _).alloc _) ⟨w9.heap.size + 1, 0, none⟩ 1 1 [.slice (some ⟨w9.heap.size, 0, none⟩) z z] (by rfl) (by rfl) (World.news_of_block (cs := #[.slice (some ⟨w9.heap.size, 0, none⟩) z z]) (t := 22) (fr := (0, 0)) (by have := heap_alloc_new (w9.alloc (.cells (madeCells #[.int .i64 0] z) 3)) (.cells #[.slice (some ⟨w9.heap.size, 0, none⟩) z z] 22); rwa [World.size_alloc] at this)) (by simp [Value.oneCell']) (by omega) (by simp only [maxLen]; omega) (by omega) (by simp; omega) (w9.heap.size + 2) (by simp) ?_; intro gg cap4 w10 hown hgr hat hlt10
             have hSa := (hS9.below ((Below.refl _ _).alloc (Nat.le_refl _) (.cells (madeCells #[.int .i64 0] z) 3))).below ((Below.refl _ _).alloc (Nat.le_refl _) (.cells #[.slice (some ⟨w9.heap.size, 0, none⟩) z z] 22))
             have bG := hSa.blk.grown hgr (fun q => by have q := hSa.lab.a _ q.symm; rw [hSa.lab.g] at q; omega)
             have y4 : w10.cell? ⟨w3.heap.size, 4, none⟩ = some (.slice A0 k c0) := bG.cell 4
             have yf := bG.frozen 4))
        all_goals
          obtain ⟨κ', Y', hS11⟩ := hS9.push_arr hl3 hown hgr hat (by simp only [maxLen]; omega)
          have hb9 := hbw8.trans (hbe.mono hbw8.size)
          have hb10 := (hb9.alloc hb9.size (.cells (madeCells #[.int .i64 0] z) 3)).alloc (by rw [World.size_alloc]; have := hb9.size; omega) (.cells #[.slice (some ⟨w9.heap.size, 0, none⟩) z z] 22)
          have hb11 := (hb10.grown hgr hb10.size (fun i e => (hAR.lt i e).1)).setCell (p := ⟨w3.heap.size, 4, none⟩) (Nat.le_refl _) (.slice (some ⟨gg, 0, none⟩) (k + 1) cap4)
          go_wp2_with fail
          go_roundw
          case rel => first | exact ⟨k + 1, by omega, by go_num, κ', _, _, Y', by rw [HPS2.out]; exact hS11⟩ | exact ⟨k + 1, by omega, by go_num, κ', _, _, Y', by rw [HPS2.out]; exact hS11, hb11⟩
          case measure => simp [intOf]; omega
      · obtain rfl : 0 = a := by rw [← hav, List.getD_eq_getElem?_getD, List.getElem?_eq_none (by omega)]; rfl
        have j1 : ¬ (k : Int) < (args.length : Int) := by omega
        clear hav
        go_wp2_with (first
          | (at_builtin; refine wpList_append_own_at _ rfl _ _ 22 rfl w3.heap.size 3 ig (.int .i64 0) 1 8 Try.underlying22 hig hz0 hz1 hz2 rfl (by decide) _ s.vals.length _ rfl hO1 ⟨wr.heap.size, 0, none⟩ 1 1 [.int .i64 0] rfl rfl (World.news_of_block (cs := #[.int .i64 0]) (t := 3) (fr := (0, 0)) HNB.out) (by simp [Value.oneCell']) (by simp only [maxLen]; omega) (by omega) hsz1 ?_; intro v7 w7 hown hg _ hat
             obtain ⟨b', cap', rfl, hb'⟩ := own_block hown (by omega)
             have bG := HS1.out.blk.grown hg (fun q => by have q := HS1.out.lab.v _ q.symm; rw [HS1.out.lab.g] at q; omega)
             have y3 := bG.cell 3
             have yf := bG.frozen 3)
          | fail)
        have hS2 := HS1.out.push_v (x := 0) hg (by rw [List.length_append, icells_snoc]; exact hown) hat
        rw [hl1] at hS2
        have hbw8 : Below w3.heap.size w3 (w7.setCell ⟨w3.heap.size, 3, none⟩ (.slice (some ⟨b', 0, none⟩) (k + 1) cap')) := ((hbw.trans (hW1.mono hbw.size)).grown hg (Nat.le_trans hbw.size hW1.size) (fun i e => (hO1.lt i e).1)).setCell (p := ⟨w3.heap.size, 3, none⟩) (Nat.le_refl _) _
        obtain ⟨w8, hw8⟩ : ∃ w8, w7.setCell ⟨w3.heap.size, 3, none⟩ (.slice (some ⟨b', 0, none⟩) (k + 1) cap') = w8 := ⟨_, rfl⟩
        rw [hw8] at hS2 hbw8 ⊢
        clear hw8 y3 yf bG hg hown hat hb' HS1 hO1 HNB hsz1 hW1 b0 b1 b2 pk g3 hS hig hz0 hz1 hz2
        have hB8 := hb3.trans (hbw8.mono hb3.size)
        have hsz8 := hbw8.size
        obtain ⟨b0, b1, b2⟩ := HX.out _ hB8
        rw [hpA] at b1
        have pk := HPV.out _ hB8
        obtain ⟨A0, c0, rfl⟩ := Wire.owns_form hS2.ar
        have hl3 : s.arrs.length = k := hl2
        simp only [hl3] at hS2
        have y4 : w8.cell? ⟨w3.heap.size, 4, none⟩ = some (.slice A0 k c0) := hS2.cell 4
        have yf := hS2.blk.frozen 4
        obtain ⟨ig, hig, hz0, hz1, hz2⟩ := info_parts info_ints
        have HS2 := Lib.hid hS2
        have hlo := fun i hi => (hS2.ar.lt i hi)
        clear hS2
        go_region_law (first
          | (go_simp; go_at_call 22; (with_reducible refine (HSZ.out _).mono ?_); rintro e w9 ⟨rfl, hq⟩
             have hbe : Below w8.heap.size w8 w9 := by rw [hq]; exact (Below.refl _ _).drew
             have hS9 := HS2.out.below hbe
             have y4 : w9.cell? ⟨w3.heap.size, 4, none⟩ = some (.slice A0 k c0) := hS9.cell 4
             have hsz9 := hbe.size
             have y4a : (w9.alloc (.cells (madeCells #[.int .i64 0] z) 3)).cell? ⟨w3.heap.size, 4, none⟩ = some (.slice A0 k c0) := (hS9.below ((Below.refl _ _).alloc (Nat.le_refl _) _)).cell 4
             have y4b : ((w9.alloc (.cells (madeCells #[.int .i64 0] z) 3)).alloc (.cells #[.slice (some ⟨w9.heap.size, 0, none⟩) z z] 22)).cell? ⟨w3.heap.size, 4, none⟩ = some (.slice A0 k c0) := ((hS9.below ((Below.refl _ _).alloc (Nat.le_refl _) _)).below ((Below.refl _ _).alloc (Nat.le_refl _) _)).cell 4
             have hAR := hS9.ar
             simp only [hl3] at hAR
             clear hq)
          | (refine step_append_lies _ (by rfl) _ _ _ (by rfl) w3.heap.size 22 ig _ 1 24 Try.underlying49 hig hz0 hz1 hz2 rfl (by omega) _ k _ (by rfl) ((hAR.alloc _).alloc _) ⟨w9.heap.size + 1, 0, none⟩ 1 1 [.slice (some ⟨w9.heap.size, 0, none⟩) z z] (by rfl) (by rfl) (World.news_of_block (cs := #[.slice (some ⟨w9.heap.size, 0, none⟩) z z]) (t := 22) (fr := (0, 0)) (by have := heap_alloc_new (w9.alloc (.cells (madeCells #[.int .i64 0] z) 3)) (.cells #[.slice (some ⟨w9.heap.size, 0, none⟩) z z] 22); rwa [World.size_alloc] at this)) (by simp [Value.oneCell']) (by omega) (by simp only [maxLen]; omega) (by omega) (by simp; omega) (w9.heap.size + 2) (by simp) ?_; intro gg cap4 w10 hown hgr hat hlt10
             have hSa := (hS9.below ((Below.refl _ _).alloc (Nat.le_refl _) (.cells (madeCells #[.int .i64 0] z) 3))).below ((Below.refl _ _).alloc (Nat.le_refl _) (.cells #[.slice (some ⟨w9.heap.size, 0, none⟩) z z] 22))
             have bG := hSa.blk.grown hgr (fun q => by have q := hSa.lab.a _ q.symm; rw [hSa.lab.g] at q; omega)
             have y4 : w10.cell? ⟨w3.heap.size, 4, none⟩ = some (.slice A0 k c0) := bG.cell 4
             have yf := bG.frozen 4))
        all_goals
          obtain ⟨κ', Y', hS11⟩ := hS9.push_arr hl3 hown hgr hat (by simp only [maxLen]; omega)
          have hb9 := hbw8.trans (hbe.mono hbw8.size)
          have hb10 := (hb9.alloc hb9.size (.cells (madeCells #[.int .i64 0] z) 3)).alloc (by rw [World.size_alloc]; have := hb9.size; omega) (.cells #[.slice (some ⟨w9.heap.size, 0, none⟩) z z] 22)
          have hb11 := (hb10.grown hgr hb10.size (fun i e => (hAR.lt i e).1)).setCell (p := ⟨w3.heap.size, 4, none⟩) (Nat.le_refl _) (.slice (some ⟨gg, 0, none⟩) (k + 1) cap4)
          go_wp2_with fail
          go_roundw
          case rel => first | exact ⟨k + 1, by omega, by go_num, κ', _, _, Y', by rw [HPS2.out]; exact hS11⟩ | exact ⟨k + 1, by omega, by go_num, κ', _, _, Y', by rw [HPS2.out]; exact hS11, hb11⟩
          case measure => simp [intOf]; omega
    · obtain rfl : k = p.vs.length := by omega
      have i1 : ¬ (p.vs.length : Int) < (p.vs.length : Int) := by omega
      rw [part_all] at hS
      have hsc : scan 1 (p.xs.drop 0) = some p.xs.length := by rw [List.drop_zero]; exact HM.out.whole
      have hE : EIn w3.heap.size p wr := ⟨Nodes.below (HPK.out _ hb3).body hbw, (HPK.out _ hb3).lx, hbw.size⟩
      have KE : Calls Try.prog 23 #[.pointer (some ⟨w3.heap.size, 0, none⟩), .int .i64 0] wr (NEnds 57 w3.heap.size w3.heap.size κ p vv av (mean p.xs 0 (begin_ p.vs args fn)) wr) :=
        enter_any (T := 57) (base := w3.heap.size) (g := w3.heap.size) (p := p) (vv := vv) (av := av) HM.out.all (fn + 1) 0 p.xs.length (begin_ p.vs args fn) (Nat.lt_succ_self _) hsc (fun _ => ⟨HM.out.begin rfl fn, begin_fits hf1⟩) _ _ _ _ hS hE
      have HKE := Lib.hid KE
      have hlab := hS.lab.lt
      have HMR : Hid ((mean p.xs 0 (begin_ p.vs args fn)).1.stop 3 0 = mrun p.vs p.xs args fn) := Lib.hid rfl
      have hev : (mrun p.vs p.xs args fn).ev.length ≤ 1000000 := by
        have h1 := few_mean p.xs 0 (begin_ p.vs args fn) rfl
        have h2 := (nice_mean p.xs 0).sum (begin_ p.vs args fn) rfl
        rw [← HMR.out, (stop_steps _ 3 0).2.1]
        have h3 : (begin_ p.vs args fn).ev.length = 0 := rfl
        have h4 : (begin_ p.vs args fn).steps + (begin_ p.vs args fn).fuel = 0 + fn := rfl
        omega
      obtain ⟨s6, hs6⟩ : ∃ s6, mrun p.vs p.xs args fn = s6 := ⟨_, rfl⟩
      rw [hs6] at HMR hev
      have HS6 := Lib.hid hs6
      clear hs6
      generalize mean p.xs 0 (begin_ p.vs args fn) = r at *
      clear KE hE hsc hS hl1 hl2 b0 b1 b2
      obtain ⟨b0, b1, b2⟩ := HX.out _ hB1
      go_wp2_with (first
        | (go_at_call 23; (with_reducible refine HKE.out.mono ?_); rintro e w5 ⟨rfl, κ5, evv5, Y5, h5, hw5⟩
           have HST := Lib.hid (ref_stop h5 3 0)
           rw [HMR.out] at HST)
        | (go_at_call 24; (with_reducible refine HST.out.mono ?_); rintro e w6 ⟨rfl, h6, hw6⟩)
        | fail)
      have hw56 := hw5.trans hw6
      have hb6 : Below w3.heap.size w3 w6 := hbw.trans (hw56.kept.to_below hbw.size (fun q z => (hlab q z).1))
      have hB6 := hb3.trans (hb6.mono hb3.size)
      have bR6 := HR.out _ hB6
      have r0 := bR6.cell 0
      have r1 := bR6.cell 1
      have r2 := bR6.cell 2
      have r3 := bR6.cell 3
      have rf := bR6.frozen
      obtain ⟨A', c', rfl, hc', hA', hER, hlo⟩ := own_events h6.er
      have z6 : w6.cell? ⟨w3.heap.size, 6, none⟩ = some (.int .i64 s6.steps) := h6.cell 6
      have z7 : w6.cell? ⟨w3.heap.size, 7, none⟩ = some (.slice A' s6.ev.length c') := h6.cell 7
      have z8 : w6.cell? ⟨w3.heap.size, 8, none⟩ = some (.int .i64 s6.kind) := h6.cell 8
      have z9 : w6.cell? ⟨w3.heap.size, 9, none⟩ = some (.int .i64 s6.value) := h6.cell 9
      have hgb : w.heap.size + 1 < w3.heap.size := (HR.out _ hb3).lt
      go_region
      go_wp2_with fail
      refine bodyPost_ret (v := .tuple #[.agg #[.int .i64 s6.kind, .int .i64 s6.value, .int .i64 s6.steps, .slice A' s6.ev.length c'], .int .i64 0]) (by simp [results, Try.results9, go_sem, r0, r1, r2, r3]) rfl ?_
      have hb7 := (((((HB.out.trans (hB6.mono HB.out.size)).setCell (p := ⟨w.heap.size + 1, 0, none⟩) (Nat.le_succ _) (.int .i64 s6.kind)).setCell (p := ⟨w.heap.size + 1, 1, none⟩) (Nat.le_succ _) (.int .i64 s6.value)).setCell (p := ⟨w.heap.size + 1, 2, none⟩) (Nat.le_succ _) (.int .i64 s6.steps)).setCell (p := ⟨w.heap.size + 1, 3, none⟩) (Nat.le_succ _) (.slice A' s6.ev.length c')).drew
      unfold REnds
      rw [HS6.out]
      refine ⟨hb7, A', c', rfl, ?_, hc', hA', hev⟩
      have hne : ∀ ad, A' = some ad → ad.block ≠ w.heap.size + 1 := fun ad e => by have := hlo ad e; omega
      have h4 := (((hER.far 0 (.int .i64 s6.kind) hne).far 1 (.int .i64 s6.value) hne).far 2 (.int .i64 s6.steps) hne).far 3 (.slice A' s6.ev.length c') hne
      intro i e hi
      obtain ⟨ad, q1, q2, q3⟩ := h4 i e hi
      exact ⟨ad, q1, by simpa using q2, q3⟩
end Go.Proofs.Ytodejloonfkkmaa.Mach

set_option linter.unusedVariables false
namespace Go.Proofs.Ytodejloonfkkmaa.Mach
open Go.RowKit Mem _root_.Go.Proofs.Ytodejloonfkkmaa.Arena _root_.Go.Proofs.Ytodejloonfkkmaa.Kinds _root_.Go.Proofs.Ytodejloonfkkmaa.Path _root_.Go.Proofs.Ytodejloonfkkmaa.Cat _root_.Go.Proofs.Ytodejloonfkkmaa.Suite _root_.Go.Proofs.Ytodejloonfkkmaa.Delta

/-- A run, or none where it may not be. -/
def rrun (ps : Int) (vs : List Int) (xs : List Nd) (args : List Int) (f : Int) : St :=
  if mcheck ps vs xs args.length f = 0 then mrun vs xs args f.toNat else ⟨[], [], 0, 0, [], 0, 0, false⟩
/-- A run's value. -/
def rn (A : Option Addr) (c : Nat) (s : St) : Rn := ⟨s.kind, s.value, s.steps, A, c, s.ev⟩
/-- What Run comes to. -/
def RunEnds (p : Prg) (args : List Int) (f : Int) (w : World) (e : Ending) (w' : World) : Prop :=
  Below w.heap.size w w' ∧ ∃ A c, e = .returned (.tuple #[(rn A c (rrun p.ps p.vs p.xs args f)).val, .int .i64 (mcheck p.ps p.vs p.xs args.length f)]) ∧ (rn A c (rrun p.ps p.vs p.xs args f)).Ok w'
theorem ref_MRun_any (p : Prg) (A : Option Addr) (c : Nat) (args : List Int) (f : Int) (w : World) (hp : p.Ok w) (hA : IRow w w.heap.size A args) :
    Calls Try.prog 9 #[.agg #[.int .i64 p.ps, .slice p.A p.vs.length p.c, .slice p.B p.xs.length p.e], .slice A args.length c, .int .i64 f] w (RunEnds p args f w) := by
  by_cases hm : mcheck p.ps p.vs p.xs args.length f = 0
  · have h := mcheck_zero.1 hm
    obtain ⟨fn, rfl⟩ := Int.eq_ofNat_of_zero_le h.f0
    refine (ref_MRun_good p A c args fn w hp hA h).mono ?_
    rintro e w' ⟨hb, A', c', he, hok⟩
    unfold RunEnds rrun
    rw [if_pos hm, hm, Int.toNat_natCast]
    exact ⟨hb, A', c', he, hok⟩
  · refine (ref_MRun_bad p A c args f w hp hm).mono ?_
    rintro e w' ⟨rfl, hb⟩
    unfold RunEnds rrun
    rw [if_neg hm]
    exact ⟨hb, none, 0, rfl, Rn.zero_ok _⟩
/-- What a run with more fuel comes to. -/
theorem rrun_ok {ps : Int} {vs : List Int} {xs : List Nd} {args : List Int} {f : Int} (h : mcheck ps vs xs args.length f = 0) : rrun ps vs xs args f = mrun vs xs args f.toNat := if_pos h
end Go.Proofs.Ytodejloonfkkmaa.Mach
