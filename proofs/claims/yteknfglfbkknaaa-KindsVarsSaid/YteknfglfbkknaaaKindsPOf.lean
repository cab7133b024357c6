/-
  Package kinds, walked: a node's kind.
-/
import Derived.Test.YteknfglfbkknaaaKindsPOfM
namespace Go.Proofs.Yteknfglfbkknaaa.Kinds
open Go.RowKit Mem _root_.Go.Proofs.Yteknfglfbkknaaa.Arena
set_option linter.unusedVariables false
attribute [local go_sem ↓] Go.wp_at_zero Go.wp_at_succ

set_option maxRecDepth 100000 in
set_option maxHeartbeats 2000000 in
theorem Of_bad (p : Prg) (a : Int) (w : World) (hp : p.Ok w) (he : aend p.xs a = -1) :
    Calls Try.prog 19 #[.agg #[.int .i64 p.ps, .slice p.A p.vs.length p.c, .slice p.B p.xs.length p.e], .int .i64 a] w fun e w' => e = .returned (.int .i64 (okind p.vs p.xs a)) ∧ Below w.heap.size w w' := by
  have hB0 : Below w.heap.size w (w.alloc (.cells #[.int .i64 p.ps, .slice p.A p.vs.length p.c, .slice p.B p.xs.length p.e] 25)) := (Below.refl _ _).alloc (Nat.le_refl _) _
  obtain ⟨b0, b1, b2⟩ := (Blk.new w 25 #[.int .i64 p.ps, .slice p.A p.vs.length p.c, .slice p.B p.xs.length p.e]).three
  have HE := Lib.hid (End_any p.B p.e p.xs a _ (hp.at hB0).body hp.lx)
  rw [okind_bad (by omega)]
  rw [he] at HE
  clear he hp
  go_enter Try.func19, Try.ntmps19
  go_wp2_with (go_at_call 23; refine HE.out.mono ?_; rintro e w1 ⟨rfl, hb1⟩)
  go_ret
  exact ⟨rfl, hB0.trans (hb1.mono hB0.size)⟩

set_option maxRecDepth 100000 in
set_option maxHeartbeats 8000000 in
theorem Of_good (ps : Int) (A : Option Addr) (c : Nat) (vs : List Int) (ad : Addr) (ce : Nat) (xs : List Nd) (k n : Nat) (w : World) (hp : Prg.Ok ⟨ps, A, c, vs, some ad, ce, xs⟩ w) (hs : scan 1 (xs.drop k) = some n) :
    Calls Try.prog 19 #[.agg #[.int .i64 ps, .slice A vs.length c, .slice (some ad) xs.length ce], .int .i64 (k : Int)] w fun e w' => e = .returned (.int .i64 (okind vs xs k)) ∧ Below w.heap.size w w' := by
  have hB0 : Below w.heap.size w (w.alloc (.cells #[.int .i64 ps, .slice A vs.length c, .slice (some ad) xs.length ce] 25)) := (Below.refl _ _).alloc (Nat.le_refl _) _
  have bX := Blk.new w 25 #[.int .i64 ps, .slice A vs.length c, .slice (some ad) xs.length ce]
  have hgl := bX.lt
  have hX := hp.at hB0
  have hlx : xs.length ≤ 1000000 := hp.lx
  have hlv : vs.length ≤ 1000000 := hp.lv
  have HBX := Lib.hid (fun W (h : Below (w.alloc (.cells #[.int .i64 ps, .slice A vs.length c, .slice (some ad) xs.length ce] 25)).heap.size (w.alloc (.cells #[.int .i64 ps, .slice A vs.length c, .slice (some ad) xs.length ce] 25)) W) => (bX.below h hgl).three)
  have HNB := Lib.hid (fun W (h : Below (w.alloc (.cells #[.int .i64 ps, .slice A vs.length c, .slice (some ad) xs.length ce] 25)).heap.size (w.alloc (.cells #[.int .i64 ps, .slice A vs.length c, .slice (some ad) xs.length ce] 25)) W) => (hX.at h).body)
  have HNV := Lib.hid (fun W (h : Below (w.alloc (.cells #[.int .i64 ps, .slice A vs.length c, .slice (some ad) xs.length ce] 25)).heap.size (w.alloc (.cells #[.int .i64 ps, .slice A vs.length c, .slice (some ad) xs.length ce] 25)) W) => (hX.at h).vars)
  have he := aend_some hs
  have HE := Lib.hid (show Calls Try.prog 23 #[.slice (some ad) xs.length ce, .int .i64 (k : Int)] (w.alloc (.cells #[.int .i64 ps, .slice A vs.length c, .slice (some ad) xs.length ce] 25)) (fun e w' => e = .returned (.int .i64 ((k : Int) + n)) ∧ Below (w.alloc (.cells #[.int .i64 ps, .slice A vs.length c, .slice (some ad) xs.length ce] 25)).heap.size (w.alloc (.cells #[.int .i64 ps, .slice A vs.length c, .slice (some ad) xs.length ce] 25)) w') from by
    have q := End_any (some ad) ce xs k (w.alloc (.cells #[.int .i64 ps, .slice A vs.length c, .slice (some ad) xs.length ce] 25)) hX.body hlx
    rw [he] at q
    exact q)
  have hle := scan_le _ _ _ hs
  rw [List.length_drop] at hle
  have hne : ((k : Int) + (n : Int) == -1) = false := by rw [beq_eq_false_iff_ne]; omega
  have hlX : ((xs.drop k).take n).length = n := by rw [List.length_take, List.length_drop]; omega
  have HW := Lib.hid (prow_whole (vs := vs) hs)
  have HEN := Lib.hid (fun t ht => prow_enough (vs := vs) hs t ht)
  obtain ⟨X, hX'⟩ : ∃ X, (xs.drop k).take n = X := ⟨_, rfl⟩
  rw [hX'] at HW HEN hlX
  have v0 : IntKind.i64.wrap ((k : Int) + (n : Int) - 1) = (k : Int) + (n : Int) - 1 := IntWalk.i64_in _ (by omega)
  obtain ⟨ig, hig, hz0, hz1, hz2⟩ := info_parts info_part
  have HWY := Lib.hid (fun W => ways_any W)
  obtain ⟨b0, b1, b2⟩ := HBX.out _ (Below.refl _ _)
  clear he hs hX' hp hX bX
  go_enter Try.func19, Try.ntmps19
  go_wp2_with (first
    | (go_at_call 23; refine HE.out.mono ?_; rintro e w1 ⟨rfl, hb1⟩)
    | (go_at_call 36; refine (HWY.out _).mono ?_; rintro e wz ⟨b, rfl, hblt, hmap, hb2⟩; have hB2 := hb1.trans (hb2.mono hb1.size); obtain ⟨b0, b1, b2⟩ := HBX.out _ hB2))
  have HMAP := Lib.hid (show ∀ W, Below wz.heap.size wz W → W.ownsMap Try.prog 3 itself b 26 table from fun W h => by
    obtain ⟨es, clock, q1, q2, q3, q4⟩ := hmap
    exact ⟨es, clock, (h.block b hblt).trans q1, q2, q3, q4⟩)
  clear hmap hb1 hb2
  go_loopw [7, 8] (fun v i wr => ∃ r : Nat, r ≤ n ∧ i = .int .i64 ((k : Int) + (r : Int) - 1) ∧ wr.ownsRow wz.heap.size 47 2 v (prow vs (X.drop r)).length (ncells (prow vs (X.drop r))) ∧ Below wz.heap.size wz wr) (fun _ i _ => (intOf i + 1 - k).toNat)
  case atStart => exact ⟨n, by omega, rfl, by rw [List.drop_eq_nil_of_le (by omega)]; exact World.ownsRow_nil _ _ _ _, Below.refl _ _⟩
  case round =>
    obtain ⟨r, hr, rfl, hO, hB⟩ := hrel
    rcases r with _ | t
    · have j1 : (k : Int) + ((0 : Nat) : Int) - 1 < (k : Int) := by omega
      rw [List.drop_zero, HW.out] at hO
      obtain ⟨g, c', rfl, -⟩ := hO.form (by simp)
      have hc := hO.cellAt 1 (by simp)
      rw [show (ncells [(otag xs k, okind vs xs k)])[1]? = some (.int .i64 (okind vs xs k)) from rfl] at hc
      obtain ⟨d, hd⟩ : ∃ d, okind vs xs k = d := ⟨_, rfl⟩
      rw [hd] at hc
      have HD := Lib.hid hd
      clear hd
      have j2 : (k : Int) + (0 : Int) - 1 < (k : Int) := by omega
      rw [show ([(otag xs k, okind vs xs k)] : List Nd).length = 1 from rfl]
      rw [show (k : Int) + ((0 : Nat) : Int) - 1 = (k : Int) + (0 : Int) - 1 by omega]
      go_wp2
      go_ret
      exact ⟨by rw [HD.out]; rfl, hB0.trans ((hB2.trans (hB.mono hB2.size)).mono hB0.size)⟩
    · obtain ⟨⟨tt, nn⟩, hxk, hx0, hd, hen⟩ := HEN.out t (by omega)
      obtain ⟨tq1, tq2⟩ := ar_tag hx0
      simp only at tq1 tq2
      obtain ⟨tn, rfl⟩ := Int.eq_ofNat_of_zero_le (show 0 ≤ tt by omega)
      have ht1 : 1 ≤ tn := by omega
      have ht2 : tn ≤ 26 := by omega
      obtain ⟨m, hm⟩ := Int.eq_ofNat_of_zero_le hx0
      have hBr := hB2.trans (hB.mono hB2.size)
      obtain ⟨ad', hq, hbk, h0', h1'⟩ := HNB.out _ hBr (k + t) _ hxk
      cases hq
      obtain ⟨b0, b1, b2⟩ := HBX.out _ hBr
      have hi : (k : Int) + ((t + 1 : Nat) : Int) - 1 = ((k + t : Nat) : Int) := by omega
      rw [hi]
      have hnext : ((k + t : Nat) : Int) - 1 = (k : Int) + (t : Int) - 1 := by omega
      have v5 : IntKind.i64.wrap (((k + t : Nat) : Int) - 1) = (k : Int) + (t : Int) - 1 := by rw [hnext]; exact IntWalk.i64_in _ (by omega)
      have j1 : (k : Int) ≤ ((k + t : Nat) : Int) := by omega
      have j2 : (0 : Int) ≤ ((k + t : Nat) : Int) := by omega
      have j3 : ((k + t : Nat) : Int) < (xs.length : Int) := by omega
      have hlS := prow_le vs (X.drop (t + 1))
      rw [List.length_drop, hlX] at hlS
      rw [hm, Int.toNat_natCast] at hen
      obtain ⟨o, ho⟩ : ∃ o, (prow vs (X.drop (t + 1))).length = o + m := ⟨(prow vs (X.drop (t + 1))).length - m, by omega⟩
      have hst := prow_cons vs ((tn : Int), nn) (X.drop (t + 1)) o m hx0 (by rw [hm, Int.toNat_natCast]) ho
      rw [← hd] at hst
      have hbr := cls_branches hx0
      rw [hm, Int.toNat_natCast] at hbr
      simp only at hst hbr
      generalize hDD : prow vs (X.drop (t + 1)) = D at *
      have hND : D.length = o + m := ho
      rw [hND] at hO
      have HA := Lib.hid (show ∀ W, Calls Try.prog 37 #[.agg #[.int .i64 (tn : Int), .int .i64 nn]] W (fun e w' => e = .returned (.int .i64 (m : Int)) ∧ Below W.heap.size W w') from fun W => by
        have q := Arity_any tn nn W
        rw [hm] at q
        exact q)
      have HTY := Lib.hid (show ∀ W, IRow W W.heap.size A vs → Calls Try.prog 39 #[.slice A vs.length c, .int .i64 nn] W (fun e w' => e = .returned (.int .i64 (vtyp vs nn)) ∧ Below W.heap.size W w') from fun W h => (typeOf_any A c vs nn W h hlv).mono (fun e w' h => ⟨h.1, h.2 ▸ Below.refl _ _⟩))
      have HM := Lib.hid (show ∀ (W : World) A' c', Nodes W W.heap.size A' (D.drop o) → m ≤ c' → Calls Try.prog 38 #[wayOf tn, .int .i64 (vtyp vs nn), .slice A' m c'] W (fun e w' => e = .returned (.int .i64 (if (cls tn).fits (vtyp vs nn) (D.drop o) then (cls tn).gives (vtyp vs nn) else -1)) ∧ Below W.heap.size W w') from fun W A' c' h h' => by
        have hl : (D.drop o).length = m := by rw [List.length_drop, hND]; omega
        have q := made_any (cls tn) (vtyp vs nn) A' c' (D.drop o) W h (by omega) (fun hb => by rw [hl]; exact hbr hb) (by omega)
        rw [hl, ← way_cls tn ht1 ht2] at q
        exact q)
      have v6 : IntKind.i64.wrap (((o + m : Nat) : Int) - (m : Int)) = (o : Int) := by rw [IntWalk.i64_in _ (by omega)]; omega
      generalize vtyp vs nn = ty at *
      generalize (if (cls tn).fits ty (D.drop o) then (cls tn).gives ty else -1) = M at *
      have HF := Lib.hid (show ∀ (W : World) v, W.ownsRow wz.heap.size 47 2 v (o + 1) (ncells (D.take o) ++ [.int .i64 (tn : Int), .int .i64 M]) → W.ownsRow wz.heap.size 47 2 v (prow vs (X.drop t)).length (ncells (prow vs (X.drop t))) from fun W v h => by
        have hlen : (prow vs (X.drop t)).length = o + 1 := by rw [hst, List.length_append, List.length_take, hND]; simp
        rw [hlen, hst, ← ncells_snoc]
        exact h)
      have HT := Lib.hid (show ∀ (W : World) g c, W.ownsRow wz.heap.size 47 2 (.slice (some ⟨g, 0, none⟩) (o + m) c) (o + m) (ncells D) → W.ownsRow wz.heap.size 47 2 (.slice (some ⟨g, 0, none⟩) o c) o (ncells (D.take o)) from fun W g c h => own_take2 h o (by omega))
      have hOa := hO.alloc (.cells #[.int .i64 (tn : Int), .int .i64 nn] 39)
      have hBa := hB.alloc hB.size (.cells #[.int .i64 (tn : Int), .int .i64 nn] 39)
      have bY := Blk.new wr 39 #[.int .i64 (tn : Int), .int .i64 nn]
      obtain ⟨y0, y1⟩ := bY.two
      clear hst hDD hd hxk hx0 hm hen hnext hi hbr tq1 tq2
      have hO1 := hO
      rcases hO.2 with ⟨hv, hz⟩ | ⟨g, c', cur, hv, -⟩
      · obtain rfl : o = 0 := by omega
        obtain rfl : m = 0 := by omega
        subst hv
        have hD0 : D = [] := List.length_eq_zero_iff.1 (by omega)
        subst hD0
        have hI : ∀ (W : World) A, Nodes W W.heap.size A (([] : List Nd).drop 0) := fun W A i x h => by simp at h
        replace HT := Lib.hid (show ∀ (W : World) (u : Nat), W.ownsRow wz.heap.size 47 2 (.slice none 0 0) 0 (ncells (([] : List Nd).take 0)) from fun W _ => World.ownsRow_nil _ _ _ _)
        go_wp2_with (go_at_call 37; refine (HA.out _).mono ?_; rintro e w3 ⟨rfl, hb3⟩; have hB3 := hBa.trans (hb3.mono hBa.size); have hO3 := own_of_block hOa (fun i hi => hb3.block i (hOa.lt i hi).2); obtain ⟨b0, b1, b2⟩ := HBX.out _ (hB2.trans (hB3.mono hB2.size)); obtain ⟨y0, y1⟩ := (bY.below hb3 bY.lt).two; have hlk := look (HMAP.out _ (hB3.drew)) tn ht1 ht2; have hNV := HNV.out _ ((hB2.trans (hB3.mono hB2.size)).drew); have hlt3 : wr.heap.size < w3.heap.size := by have q1 := bY.lt; have q2 := hb3.size; omega)
        have hC := And.intro b0 (And.intro b1 (And.intro b2 (And.intro y0 (And.intro y1 hlk))))
        go_region_held3 (fun w' => w'.cell? ⟨w.heap.size, 0, none⟩ = some (.int .i64 ps) ∧ w'.cell? ⟨w.heap.size, 1, none⟩ = some (.slice A vs.length c) ∧ w'.cell? ⟨w.heap.size, 2, none⟩ = some (.slice (some ad) xs.length ce) ∧ w'.cell? ⟨wr.heap.size, 0, none⟩ = some (.int .i64 tn) ∧ w'.cell? ⟨wr.heap.size, 1, none⟩ = some (.int .i64 nn) ∧ (Instr.lookup 50 (.map (some b)) (.int .i64 tn) false).run Try.prog w' = .ok (wayOf tn) w') (exact hC) (first
          | (go_at_call 39; refine (HTY.out _ hNV).mono ?_; rintro e w4 ⟨rfl, hb4⟩; have hB4 := (hB3.drew).trans (hb4.mono hB3.size); have hO4 := own_of_block (hO3.drew) (fun i hi => hb4.block i (hO3.lt i hi).2); obtain ⟨b0, b1, b2⟩ := HBX.out _ (hB2.trans (hB4.mono hB2.size)); obtain ⟨y0, y1⟩ := ((bY.below hb3 bY.lt).drew.below hb4 hlt3).two; have hlk := look (HMAP.out _ hB4) tn ht1 ht2; have hC := And.intro b0 (And.intro b1 (And.intro b2 (And.intro y0 (And.intro y1 hlk)))))
          | (go_at_call 38; refine (HM.out _ _ _ (hI _ _) (by omega)).mono ?_; rintro e w5 ⟨rfl, hb5⟩; have hB5 := hB4.trans (hb5.mono hB4.size); have hO5 := own_of_block hO4 (fun i hi => hb5.block i (hO4.lt i hi).2); obtain ⟨b0, b1, b2⟩ := HBX.out _ (hB2.trans (hB5.mono hB2.size)); have hlt4 : wr.heap.size < w4.heap.size := Nat.lt_of_lt_of_le hlt3 hb4.size; have bY5 := ((bY.below hb3 bY.lt).drew.below hb4 hlt3).below hb5 hlt4; obtain ⟨y0, y1⟩ := bY5.two; have hlk := look (HMAP.out _ hB5) tn ht1 ht2; have hC := And.intro b0 (And.intro b1 (And.intro b2 (And.intro y0 (And.intro y1 hlk)))))
          | fail)
        all_goals go_wp2_with fail
        all_goals have hC2 := bY5.two
        all_goals have hC3 := fun o => (bY5.alloc o).two
        all_goals go_region_held3 (fun w' => w'.cell? ⟨wr.heap.size, 0, none⟩ = some (.int .i64 tn) ∧ w'.cell? ⟨wr.heap.size, 1, none⟩ = some (.int .i64 nn)) (first | exact hC2 | exact hC3 _ | exact hC4) (first
          | (refine step_append_lies _ (by rfl) _ _ _ (by rfl) wz.heap.size 47 ig _ 2 16 Try.underlying52 hig hz0 hz1 hz2 rfl (by omega) _ 0 _ (by rfl) ((HT.out _ 0).alloc _) ⟨w5.heap.size, 0, none⟩ 1 1 [.int .i64 tn, .int .i64 M] (by rfl) (by rfl) (World.news_of_block (cs := #[.int .i64 tn, .int .i64 M]) (t := 47) (fr := (0, 0)) (heap_alloc_new w5.drew _)) (by simp [Value.oneCell']) (by omega) (by simp only [maxLen]; omega) (by omega) (by have := hB5.size; simp; omega) (w5.heap.size + 1) (by simp) ?_; intro gg cap4 w6 hown4 hgrow hat hlt6; have hC4 : w6.cell? ⟨wr.heap.size, 0, none⟩ = some (.int .i64 tn) ∧ w6.cell? ⟨wr.heap.size, 1, none⟩ = some (.int .i64 nn) := by (first | exact ((bY5.alloc _).grown hgrow (fun hq => by cases hq)).two | exact ((bY5.drew.alloc _).grown hgrow (fun hq => by cases hq)).two | exact (((bY5.alloc _).drew).grown hgrow (fun hq => by cases hq)).two))
          | fail)
        all_goals have hB6 : Below wz.heap.size wz w6 := ((hB5.drew).alloc hB5.size _).grown hgrow (by have := hB5.size; simp; omega) (fun k e => (hO5.lt k e).1)
        all_goals have hown5 := HF.out _ _ hown4
        all_goals clear hgrow hat hown4
        all_goals go_wp2_with fail
        all_goals go_roundw
        all_goals first
          | exact ⟨t, by omega, by go_num, hown5, hB6⟩
          | (simp [intOf]; omega)

      · subst hv
        have hcap := own_cap2 hO
        have hgw := (hO.lt _ rfl).2
        by_cases hco : c' = o
        · obtain rfl : m = 0 := by omega
          subst hco
          have hnil : D.drop c' = [] := List.drop_eq_nil_of_le (by omega)
          have hI : ∀ (W : World) A, Nodes W W.heap.size A (D.drop c') := fun W A i x h => by rw [hnil] at h; simp at h
          clear hnil
          have o1 : (0 : Int) ≤ (c' : Int) := by omega
          have o2 : (c' : Int) ≤ (c' : Int) + (0 : Int) := by omega
          go_wp2_with (go_at_call 37; refine (HA.out _).mono ?_; rintro e w3 ⟨rfl, hb3⟩; have hB3 := hBa.trans (hb3.mono hBa.size); have hO3 := own_of_block hOa (fun i hi => hb3.block i (hOa.lt i hi).2); obtain ⟨b0, b1, b2⟩ := HBX.out _ (hB2.trans (hB3.mono hB2.size)); obtain ⟨y0, y1⟩ := (bY.below hb3 bY.lt).two; have hlk := look (HMAP.out _ (hB3.drew)) tn ht1 ht2; have hNV := HNV.out _ ((hB2.trans (hB3.mono hB2.size)).drew); have hlt3 : wr.heap.size < w3.heap.size := by have q1 := bY.lt; have q2 := hb3.size; omega)
          have hC := And.intro b0 (And.intro b1 (And.intro b2 (And.intro y0 (And.intro y1 hlk))))
          go_region_held3 (fun w' => w'.cell? ⟨w.heap.size, 0, none⟩ = some (.int .i64 ps) ∧ w'.cell? ⟨w.heap.size, 1, none⟩ = some (.slice A vs.length c) ∧ w'.cell? ⟨w.heap.size, 2, none⟩ = some (.slice (some ad) xs.length ce) ∧ w'.cell? ⟨wr.heap.size, 0, none⟩ = some (.int .i64 tn) ∧ w'.cell? ⟨wr.heap.size, 1, none⟩ = some (.int .i64 nn) ∧ (Instr.lookup 50 (.map (some b)) (.int .i64 tn) false).run Try.prog w' = .ok (wayOf tn) w') (exact hC) (first
            | (go_at_call 39; refine (HTY.out _ hNV).mono ?_; rintro e w4 ⟨rfl, hb4⟩; have hB4 := (hB3.drew).trans (hb4.mono hB3.size); have hO4 := own_of_block (hO3.drew) (fun i hi => hb4.block i (hO3.lt i hi).2); obtain ⟨b0, b1, b2⟩ := HBX.out _ (hB2.trans (hB4.mono hB2.size)); obtain ⟨y0, y1⟩ := ((bY.below hb3 bY.lt).drew.below hb4 hlt3).two; have hlk := look (HMAP.out _ hB4) tn ht1 ht2; have hC := And.intro b0 (And.intro b1 (And.intro b2 (And.intro y0 (And.intro y1 hlk)))))
            | (go_at_call 38; refine (HM.out _ _ _ (hI _ _) (by omega)).mono ?_; rintro e w5 ⟨rfl, hb5⟩; have hB5 := hB4.trans (hb5.mono hB4.size); have hO5 := own_of_block hO4 (fun i hi => hb5.block i (hO4.lt i hi).2); obtain ⟨b0, b1, b2⟩ := HBX.out _ (hB2.trans (hB5.mono hB2.size)); have hlt4 : wr.heap.size < w4.heap.size := Nat.lt_of_lt_of_le hlt3 hb4.size; have bY5 := ((bY.below hb3 bY.lt).drew.below hb4 hlt3).below hb5 hlt4; obtain ⟨y0, y1⟩ := bY5.two; have hlk := look (HMAP.out _ hB5) tn ht1 ht2; have hC := And.intro b0 (And.intro b1 (And.intro b2 (And.intro y0 (And.intro y1 hlk)))))
            | fail)
          all_goals go_wp2_with fail
          all_goals have hC2 := bY5.two
          all_goals have hC3 := fun o => (bY5.alloc o).two
          all_goals go_region_held3 (fun w' => w'.cell? ⟨wr.heap.size, 0, none⟩ = some (.int .i64 tn) ∧ w'.cell? ⟨wr.heap.size, 1, none⟩ = some (.int .i64 nn)) (first | exact hC2 | exact hC3 _ | exact hC4) (first
            | (refine step_append_lies _ (by rfl) _ _ _ (by rfl) wz.heap.size 47 ig _ 2 16 Try.underlying52 hig hz0 hz1 hz2 rfl (by omega) _ c' _ (by rfl) ((HT.out _ _ _ hO5).alloc _) ⟨w5.heap.size, 0, none⟩ 1 1 [.int .i64 tn, .int .i64 M] (by rfl) (by rfl) (World.news_of_block (cs := #[.int .i64 tn, .int .i64 M]) (t := 47) (fr := (0, 0)) (heap_alloc_new w5.drew _)) (by simp [Value.oneCell']) (by omega) (by simp only [maxLen]; omega) (by omega) (by have := hB5.size; simp; omega) (w5.heap.size + 1) (by simp) ?_; intro gg cap4 w6 hown4 hgrow hat hlt6; have hC4 : w6.cell? ⟨wr.heap.size, 0, none⟩ = some (.int .i64 tn) ∧ w6.cell? ⟨wr.heap.size, 1, none⟩ = some (.int .i64 nn) := by (first | exact ((bY5.alloc _).grown hgrow (fun hq => absurd (show wr.heap.size = g from Option.some.inj hq) (by omega))).two | exact ((bY5.drew.alloc _).grown hgrow (fun hq => absurd (show wr.heap.size = g from Option.some.inj hq) (by omega))).two | exact (((bY5.alloc _).drew).grown hgrow (fun hq => absurd (show wr.heap.size = g from Option.some.inj hq) (by omega))).two))
            | fail)
          all_goals have hB6 : Below wz.heap.size wz w6 := ((hB5.drew).alloc hB5.size _).grown hgrow (by have := hB5.size; simp; omega) (fun k e => (hO5.lt k e).1)
          all_goals have hown5 := HF.out _ _ hown4
          all_goals clear hgrow hat hown4
          all_goals go_wp2_with fail
          all_goals go_roundw
          all_goals first
            | exact ⟨t, by omega, by go_num, hown5, hB6⟩
            | (simp [intOf]; omega)

        · have o1 : (0 : Int) ≤ (o : Int) := by omega
          have o2 : (o : Int) ≤ (o : Int) + (m : Int) := by omega
          have o3 : (o : Int) ≤ (c' : Int) := by omega
          go_wp2_with (go_at_call 37; refine (HA.out _).mono ?_; rintro e w3 ⟨rfl, hb3⟩; have hB3 := hBa.trans (hb3.mono hBa.size); have hO3 := own_of_block hOa (fun i hi => hb3.block i (hOa.lt i hi).2); obtain ⟨b0, b1, b2⟩ := HBX.out _ (hB2.trans (hB3.mono hB2.size)); obtain ⟨y0, y1⟩ := (bY.below hb3 bY.lt).two; have hlk := look (HMAP.out _ (hB3.drew)) tn ht1 ht2; have hNV := HNV.out _ ((hB2.trans (hB3.mono hB2.size)).drew); have hlt3 : wr.heap.size < w3.heap.size := by have q1 := bY.lt; have q2 := hb3.size; omega)
          have hC := And.intro b0 (And.intro b1 (And.intro b2 (And.intro y0 (And.intro y1 hlk))))
          go_region_held3 (fun w' => w'.cell? ⟨w.heap.size, 0, none⟩ = some (.int .i64 ps) ∧ w'.cell? ⟨w.heap.size, 1, none⟩ = some (.slice A vs.length c) ∧ w'.cell? ⟨w.heap.size, 2, none⟩ = some (.slice (some ad) xs.length ce) ∧ w'.cell? ⟨wr.heap.size, 0, none⟩ = some (.int .i64 tn) ∧ w'.cell? ⟨wr.heap.size, 1, none⟩ = some (.int .i64 nn) ∧ (Instr.lookup 50 (.map (some b)) (.int .i64 tn) false).run Try.prog w' = .ok (wayOf tn) w') (exact hC) (first
            | (go_at_call 39; refine (HTY.out _ hNV).mono ?_; rintro e w4 ⟨rfl, hb4⟩; have hB4 := (hB3.drew).trans (hb4.mono hB3.size); have hO4 := own_of_block (hO3.drew) (fun i hi => hb4.block i (hO3.lt i hi).2); obtain ⟨b0, b1, b2⟩ := HBX.out _ (hB2.trans (hB4.mono hB2.size)); obtain ⟨y0, y1⟩ := ((bY.below hb3 bY.lt).drew.below hb4 hlt3).two; have hlk := look (HMAP.out _ hB4) tn ht1 ht2; have hC := And.intro b0 (And.intro b1 (And.intro b2 (And.intro y0 (And.intro y1 hlk)))))
            | (go_at_call 38; refine (HM.out _ _ _ (own_tail2 hO4 o) (by omega)).mono ?_; rintro e w5 ⟨rfl, hb5⟩; have hB5 := hB4.trans (hb5.mono hB4.size); have hO5 := own_of_block hO4 (fun i hi => hb5.block i (hO4.lt i hi).2); obtain ⟨b0, b1, b2⟩ := HBX.out _ (hB2.trans (hB5.mono hB2.size)); have hlt4 : wr.heap.size < w4.heap.size := Nat.lt_of_lt_of_le hlt3 hb4.size; have bY5 := ((bY.below hb3 bY.lt).drew.below hb4 hlt3).below hb5 hlt4; obtain ⟨y0, y1⟩ := bY5.two; have hlk := look (HMAP.out _ hB5) tn ht1 ht2; have hC := And.intro b0 (And.intro b1 (And.intro b2 (And.intro y0 (And.intro y1 hlk)))))
            | fail)
          all_goals go_wp2_with fail
          all_goals have hC2 := bY5.two
          all_goals have hC3 := fun o => (bY5.alloc o).two
          all_goals go_region_held3 (fun w' => w'.cell? ⟨wr.heap.size, 0, none⟩ = some (.int .i64 tn) ∧ w'.cell? ⟨wr.heap.size, 1, none⟩ = some (.int .i64 nn)) (first | exact hC2 | exact hC3 _ | exact hC4) (first
            | (refine step_append_lies _ (by rfl) _ _ _ (by rfl) wz.heap.size 47 ig _ 2 16 Try.underlying52 hig hz0 hz1 hz2 rfl (by omega) _ o _ (by rfl) ((HT.out _ _ _ hO5).alloc _) ⟨w5.heap.size, 0, none⟩ 1 1 [.int .i64 tn, .int .i64 M] (by rfl) (by rfl) (World.news_of_block (cs := #[.int .i64 tn, .int .i64 M]) (t := 47) (fr := (0, 0)) (heap_alloc_new w5.drew _)) (by simp [Value.oneCell']) (by omega) (by simp only [maxLen]; omega) (by omega) (by have := hB5.size; simp; omega) (w5.heap.size + 1) (by simp) ?_; intro gg cap4 w6 hown4 hgrow hat hlt6; have hC4 : w6.cell? ⟨wr.heap.size, 0, none⟩ = some (.int .i64 tn) ∧ w6.cell? ⟨wr.heap.size, 1, none⟩ = some (.int .i64 nn) := by (first | exact ((bY5.alloc _).grown hgrow (fun hq => absurd (show wr.heap.size = g from Option.some.inj hq) (by omega))).two | exact ((bY5.drew.alloc _).grown hgrow (fun hq => absurd (show wr.heap.size = g from Option.some.inj hq) (by omega))).two | exact (((bY5.alloc _).drew).grown hgrow (fun hq => absurd (show wr.heap.size = g from Option.some.inj hq) (by omega))).two))
            | fail)
          all_goals have hB6 : Below wz.heap.size wz w6 := ((hB5.drew).alloc hB5.size _).grown hgrow (by have := hB5.size; simp; omega) (fun k e => (hO5.lt k e).1)
          all_goals have hown5 := HF.out _ _ hown4
          all_goals clear hgrow hat hown4
          all_goals go_wp2_with fail
          all_goals go_roundw
          all_goals first
            | exact ⟨t, by omega, by go_num, hown5, hB6⟩
            | (simp [intOf]; omega)


theorem Of_any (p : Prg) (a : Int) (w : World) (hp : p.Ok w) :
    Calls Try.prog 19 #[.agg #[.int .i64 p.ps, .slice p.A p.vs.length p.c, .slice p.B p.xs.length p.e], .int .i64 a] w fun e w' => e = .returned (.int .i64 (okind p.vs p.xs a)) ∧ Below w.heap.size w w' := by
  rcases aend_cases p.xs a with he | ⟨k, n, rfl, hs, he, hn1, hn2⟩
  · exact Of_bad p a w hp he
  · obtain ⟨ad, hB, -⟩ := hp.body k _ (List.getElem?_eq_getElem (show k < p.xs.length by omega))
    obtain ⟨ps, A, c, vs, B, e, xs⟩ := p
    simp only at hB
    subst hB
    exact Of_good ps A c vs ad e xs k n w hp hs

end Go.Proofs.Yteknfglfbkknaaa.Kinds
