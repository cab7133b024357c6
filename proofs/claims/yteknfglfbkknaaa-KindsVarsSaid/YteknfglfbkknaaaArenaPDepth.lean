/-
  Package arena, walked: how deep a node is, by a row of depths.
-/
import Derived.Test.YteknfglfbkknaaaArenaStk
import Derived.Test.YteknfglfbkknaaaArenaPKids
import Derived.Deep.RegionHeld3
import Derived.Deep.DrawnRows
import Derived.Deep.AppendLies
namespace Go.Proofs.Yteknfglfbkknaaa.Arena
open Go.RowKit Mem
attribute [local go_sem ↓] Go.wp_at_zero Go.wp_at_succ

def dcells (D : List Nat) : List Value := icells (D.map Int.ofNat)

set_option maxRecDepth 100000 in
theorem greatest_any (A : Option Addr) (cap : Nat) (D : List Nat) (n : Nat) (hn : D.length = n) (w : World) (hx : IRow w w.heap.size A (D.map Int.ofNat)) (hl : D.length ≤ 1000000) :
    Calls Try.prog 48 #[.slice A n cap] w fun e w' => e = .returned (.int .i64 (most D)) ∧ Below w.heap.size w w' := by
  have HX := Lib.hid hx
  subst hn
  clear hx
  go_enter Try.func48, Try.ntmps48
  go_wp2
  go_loop [3, 8] (fun m i => ∃ k : Nat, k ≤ D.length ∧ i = .int .i64 k ∧ m = .int .i64 (most (D.take k) : Int)) (fun _ i => D.length - (intOf i).toNat)
  case atStart => exact ⟨0, by omega, rfl, rfl⟩
  case round =>
    obtain ⟨k, hk, rfl, rfl⟩ := hrel
    by_cases hlt : k < D.length
    · obtain ⟨d, hd⟩ : ∃ d, D[k]? = some d := ⟨_, List.getElem?_eq_getElem hlt⟩
      obtain ⟨ad, rfl, hb, h0⟩ := HX.out k (d : Int) (by rw [List.getElem?_map, hd]; rfl)
      have hm : most (D.take (k + 1)) = max (most (D.take k)) d := by rw [take_snoc D k d hd, most_append, most_one]
      have HM := Lib.hid hm
      have j1 : (k : Int) < (D.length : Int) := by omega
      clear hm hd
      go_wp2
      go_round
      case rel => exact ⟨k + 1, by omega, by go_num, by rw [HM.out]; first | rfl | (simp; omega)⟩
      case measure => simp [intOf]; omega
    · have hk9 : k = D.length := by omega
      subst hk9
      rw [List.take_length]
      have j1 : ¬ (D.length : Int) < (D.length : Int) := by omega
      go_wp2
      go_ret
      exact ⟨rfl, Below.refl _ _⟩

theorem own_take {w : World} {base : Nat} {e : TypeId} {g n cap : Nat} {cs : List Value} (h : w.ownsRow base e 1 (.slice (some ⟨g, 0, none⟩) n cap) n cs) (k : Nat) (hk : k ≤ n) : w.ownsRow base e 1 (.slice (some ⟨g, 0, none⟩) k cap) k (cs.take k) := by
  obtain ⟨hl, h⟩ := h
  rcases h with ⟨h, -⟩ | ⟨g', cap', cur, h', hb, hg, hnc, hcm, hcs, htake⟩
  · cases h
  · simp only [Value.slice.injEq, Option.some.injEq, Addr.mk.injEq, and_true, true_and] at h'
    obtain ⟨rfl, rfl⟩ := h'
    refine ⟨by rw [List.length_take]; omega, .inr ⟨g, cap, cur, rfl, hb, hg, by omega, hcm, hcs, ?_⟩⟩
    rw [← htake, List.take_take, Nat.mul_one, Nat.mul_one]
    congr 1
    omega
theorem dcells_len (D : List Nat) : (dcells D).length = D.length := by simp [dcells, icells]
theorem dcells_take (D : List Nat) (k : Nat) : (dcells D).take k = dcells (D.take k) := by simp [dcells, icells]
theorem dcells_snoc (D : List Nat) (d : Nat) : dcells D ++ [.int .i64 (d : Int)] = dcells (D ++ [d]) := by simp [dcells, icells]
/-- The end of a row that the call owns. -/
theorem own_tail {w : World} {base : Nat} {g n cap : Nat} {D : List Nat} (h : w.ownsRow base 3 1 (.slice (some ⟨g, 0, none⟩) n cap) n (dcells D)) (o : Nat) : IRow w w.heap.size (some ⟨g, o, none⟩) ((D.drop o).map Int.ofNat) := by
  have hg : g < w.heap.size := (h.lt g rfl).2
  intro i x hx
  rw [List.getElem?_map, List.getElem?_drop, Option.map_eq_some_iff] at hx
  obtain ⟨d, hd, rfl⟩ := hx
  refine ⟨_, rfl, hg, ?_⟩
  have hc := h.cells (g := g) rfl (o + i) (.int .i64 (d : Int)) (by unfold dcells icells; rw [List.getElem?_map, List.getElem?_map, hd]; rfl)
  refine Eq.trans ?_ hc
  congr 1
  unfold Addr.add
  by_cases hi : i = 0
  · subst hi
    by_cases ho : o = 0
    · subst ho; simp
    · rw [if_pos rfl, if_neg (by omega)]; simp
  · rw [if_neg hi, if_neg (by omega)]; simp
theorem own_cap {w : World} {base : Nat} {e : TypeId} {g n cap : Nat} {cs : List Value} (h : w.ownsRow base e 1 (.slice (some ⟨g, 0, none⟩) n cap) n cs) : n ≤ cap := by
  rcases h.2 with ⟨h, -⟩ | ⟨g', cap', cur, h', hb, hg, hnc, -⟩
  · cases h
  · simp only [Value.slice.injEq, Option.some.injEq, Addr.mk.injEq, and_true, true_and] at h'
    obtain ⟨rfl, rfl⟩ := h'
    exact hnc
theorem stk_len : ∀ X : List Nd, (stk X).length ≤ X.length
  | [] => Nat.le_refl _
  | x :: X => by
    have := stk_len X
    rw [stk, List.length_cons, List.length_drop, List.length_cons]
    omega

set_option maxRecDepth 100000 in
set_option maxHeartbeats 4000000 in
theorem Depth_any (A : Option Addr) (cap : Nat) (xs : List Nd) (a : Int) (w : World) (hx : Nodes w w.heap.size A xs) (hl : xs.length ≤ 1000000) :
    Calls Try.prog 25 #[.slice A xs.length cap, .int .i64 a] w fun e w' => e = .returned (.int .i64 (adep xs a)) ∧ Below w.heap.size w w' := by
  have HE := Lib.hid (fun W hW => End_any A cap xs a W hW hl)
  have HX := Lib.hid hx
  clear hx
  rcases aend_cases xs a with he | ⟨k, n, rfl, hs, he, hn1, hn2⟩
  · rw [adep_bad (by omega)]
    rw [he] at HE
    clear he
    go_enter Try.func25, Try.ntmps25
    go_wp2_with (go_at_call 23; refine (HE.out _ HX.out).mono ?_; rintro e w1 ⟨rfl, hb1⟩)
    go_ret
    exact ⟨rfl, hb1⟩
  · rw [he] at HE
    have hne : ((k : Int) + (n : Int) == -1) = false := by rw [beq_eq_false_iff_ne]; omega
    have hlX : ((xs.drop k).take n).length = n := by rw [List.length_take, List.length_drop]; omega
    have HW := Lib.hid (stk_whole hs)
    have HEN := Lib.hid (fun t ht => stk_enough hs t ht)
    have HLE := Lib.hid (fun t => (fun d hd => stk_le (((xs.drop k).take n).drop t) d hd))
    obtain ⟨X, hX⟩ : ∃ X, (xs.drop k).take n = X := ⟨_, rfl⟩
    rw [hX] at HW HEN HLE hlX
    have v0 : IntKind.i64.wrap ((k : Int) + (n : Int) - 1) = (k : Int) + (n : Int) - 1 := IntWalk.i64_in _ (by omega)
    obtain ⟨ig, hig, hz0, hz1, hz2⟩ := info_parts info_int
    clear he hs hX
    go_enter Try.func25, Try.ntmps25
    go_wp2_with (go_at_call 23; refine (HE.out _ HX.out).mono ?_; rintro e w1 ⟨rfl, hb1⟩)
    go_loopw [6, 7] (fun v i wr => ∃ r : Nat, r ≤ n ∧ i = .int .i64 ((k : Int) + (r : Int) - 1) ∧ wr.ownsRow w.heap.size 3 1 v (stk (X.drop r)).reverse.length (dcells (stk (X.drop r)).reverse) ∧ Below w.heap.size w wr) (fun _ i _ => (intOf i + 1 - k).toNat)
    case atStart => exact ⟨n, by omega, rfl, by rw [List.drop_eq_nil_of_le (by omega)]; exact World.ownsRow_nil _ _ _ _, hb1⟩
    case round =>
      obtain ⟨r, hr, rfl, hO, hB⟩ := hrel
      rcases r with _ | t
      · have j1 : (k : Int) + ((0 : Nat) : Int) - 1 < (k : Int) := by omega
        rw [List.drop_zero, HW.out] at hO
        simp only [List.reverse_singleton] at hO
        obtain ⟨g, c, rfl, -⟩ := hO.form (by simp)
        have hc := hO.cellAt 0 (by simp)
        rw [show (dcells [adep xs (k : Int)])[0]? = some (.int .i64 (adep xs (k : Int))) from rfl] at hc
        obtain ⟨d, hd⟩ : ∃ d, adep xs (k : Int) = d := ⟨_, rfl⟩
        rw [hd] at hc
        have HD := Lib.hid hd
        clear hd
        have j2 : (k : Int) + (0 : Int) - 1 < (k : Int) := by omega
        rw [show ([adep xs (k : Int)] : List Nat).length = 1 from rfl]
        rw [show (k : Int) + ((0 : Nat) : Int) - 1 = (k : Int) + (0 : Int) - 1 by omega]
        go_wp2
        go_ret
        exact ⟨by rw [HD.out]; rfl, hB⟩
      · obtain ⟨x, hxk, hx0, hd, hen⟩ := HEN.out t (by omega)
        obtain ⟨m, hm⟩ := Int.eq_ofNat_of_zero_le hx0
        obtain ⟨ad, rfl, hbk, h0', h1'⟩ := (HX.out.below hB) (k + t) x hxk
        have hi : (k : Int) + ((t + 1 : Nat) : Int) - 1 = ((k + t : Nat) : Int) := by omega
        rw [hi]
        have hnext : ((k + t : Nat) : Int) - 1 = (k : Int) + (t : Int) - 1 := by omega
        have v5 : IntKind.i64.wrap (((k + t : Nat) : Int) - 1) = (k : Int) + (t : Int) - 1 := by rw [hnext]; exact IntWalk.i64_in _ (by omega)
        have j1 : (k : Int) ≤ ((k + t : Nat) : Int) := by omega
        have j2 : (0 : Int) ≤ ((k + t : Nat) : Int) := by omega
        have j3 : ((k + t : Nat) : Int) < (xs.length : Int) := by omega
        have hst : stk (X.drop t) = (1 + most ((stk (X.drop (t + 1))).take m)) :: (stk (X.drop (t + 1))).drop m := by rw [hd, stk, hm, Int.toNat_natCast]
        have hle := HLE.out (t + 1)
        rw [List.length_drop, hlX] at hle
        rw [hm, Int.toNat_natCast] at hen
        have HA := Lib.hid (fun W => Arity_any x.1 x.2 W)
        rw [show ar (x.1, x.2) = (m : Int) from hm] at HA
        generalize hS : stk (X.drop (t + 1)) = S at *
        have hS2 := hS
        clear hS
        obtain ⟨o, ho⟩ : ∃ o, S.length = o + m := ⟨S.length - m, by omega⟩
        have hlS : S.length ≤ 1000000 := by
          have := stk_len (X.drop (t + 1))
          rw [hS2, List.length_drop, hlX] at this
          omega
        have hmax : most (S.take m) ≤ 1000000 := most_le_all (fun y hy => by have := hle y (List.mem_of_mem_take hy); omega)
        have hdrop : S.reverse.drop o = (S.take m).reverse := by
          rw [List.drop_reverse, ho, Nat.add_sub_cancel_left]
        have htake : S.reverse.take o = (S.drop m).reverse := by
          rw [List.take_reverse, ho, Nat.add_sub_cancel_left]
        have hnew : S.reverse.take o ++ [1 + most (S.reverse.drop o)] = (stk (X.drop t)).reverse := by
          rw [hst, List.reverse_cons, htake, hdrop, most_reverse]
        rw [← most_reverse, ← hdrop] at hmax
        generalize hDD : S.reverse = D at *
        have hND : D.length = o + m := by rw [← hDD, List.length_reverse]; exact ho
        rw [hND] at hO
        have v6 : IntKind.i64.wrap (((o + m : Nat) : Int) - (m : Int)) = (o : Int) := by rw [IntWalk.i64_in _ (by omega)]; omega
        have HN := Lib.hid hnew
        have v7 : IntKind.i64.wrap (1 + (most (D.drop o) : Int)) = 1 + (most (D.drop o) : Int) := IntWalk.i64_in _ (by omega)
        clear hst hnew hdrop htake hDD hS2 hd hxk hm hle HEN HLE hnext hi
        have HG := Lib.hid (fun (W : World) A c' (h : IRow W W.heap.size A ((D.drop o).map Int.ofNat)) => greatest_any A c' (D.drop o) m (by rw [List.length_drop, hND]; omega) W h (by rw [List.length_drop]; omega))
        have HT := Lib.hid (show ∀ (W : World) g c, W.ownsRow w.heap.size 3 1 (.slice (some ⟨g, 0, none⟩) (o + m) c) (o + m) (dcells D) → W.ownsRow w.heap.size 3 1 (.slice (some ⟨g, 0, none⟩) o c) o (dcells (D.take o)) from fun W g c h => by
          have := own_take h o (by omega)
          rwa [dcells_take] at this)
        have HL := Lib.hid (show (D.take o).length = o by rw [List.length_take]; omega)
        obtain ⟨M, hM⟩ : ∃ M, most (D.drop o) = M := ⟨_, rfl⟩
        rw [hM] at HG v7 HN hmax
        clear hM
        have z9 := Lib.hid (show (1 : Int) + (M : Int) = ((1 + M : Nat) : Int) by omega)
        have HF := Lib.hid (show ∀ (W : World) v, W.ownsRow w.heap.size 3 1 v (o + 1) (dcells (D.take o) ++ [.int .i64 (1 + (M : Int))]) → W.ownsRow w.heap.size 3 1 v (stk (X.drop t)).reverse.length (dcells (stk (X.drop t)).reverse) from fun W v h => by
          have hlen : (stk (X.drop t)).reverse.length = o + 1 := by rw [← HN.out, List.length_append, HL.out]; rfl
          rw [hlen, ← HN.out, ← dcells_snoc, ← z9.out]
          exact h)
        rcases hO.2 with ⟨hv, hz⟩ | ⟨g, c, cur, hv, -⟩
        · obtain rfl : o = 0 := by omega
          obtain rfl : m = 0 := by omega
          subst hv
          have hD0 : D = [] := List.length_eq_zero_iff.1 (by omega)
          subst hD0
          have hI : ∀ (W : World) A, IRow W W.heap.size A ((([] : List Nat).drop 0).map Int.ofNat) := fun W A i x h => by simp at h
          replace HT := Lib.hid (show ∀ (W : World) (u : Nat), W.ownsRow w.heap.size 3 1 (.slice none 0 0) 0 (dcells (([] : List Nat).take 0)) from fun W _ => World.ownsRow_nil _ _ _ _)
          go_wp2_with (go_at_call 37; refine (HA.out _).mono ?_; rintro e w2 ⟨rfl, hb2⟩)
          have hB2 := hB.trans (hb2.mono hB.size)
          have hO2 := own_of_block hO (fun i hi => hb2.block i (hO.lt i hi).2)
          go_region_held3 (fun _ => True) (trivial) (first
            | (go_at_call 48; refine (HG.out _ _ _ (hI _ _)).mono ?_; rintro e w3 ⟨rfl, hb3⟩; have hB3 := (hB2.drew).trans (hb3.mono hB2.size); have hO3 := own_of_block (hO2.drew) (fun i hi => hb3.block i (hO2.lt i hi).2))
            | (refine step_append_lies _ (by rfl) _ _ _ (by rfl) w.heap.size 3 ig _ 1 8 Try.underlying22 hig hz0 hz1 hz2 rfl (by omega) _ 0 _ (by rfl) ((HT.out _ 0).alloc _) ⟨w3.heap.size, 0, none⟩ 1 1 [.int .i64 (1 + (M : Int))] (by rfl) (by rfl) (World.news_of_block (cs := #[.int .i64 (1 + (M : Int))]) (t := 3) (fr := (0, 0)) (heap_alloc_new w3 _)) (by simp [Value.oneCell']) (by omega) (by simp only [maxLen]; omega) (by omega) (by have := hB3.size; simp; omega) (w3.heap.size + 1) (by simp) ?_; intro gg cap4 w4 hown4 hgrow hat hlt4)
              | fail)
          all_goals have hB4 : Below w.heap.size w w4 := (hB3.alloc hB3.size _).grown hgrow (by have := hB3.size; simp; omega) (fun k e => (hO3.lt k e).1)
          all_goals have hown5 := HF.out _ _ hown4
          all_goals clear hgrow hat hown4
          all_goals go_wp2_with fail
          all_goals go_roundw
          all_goals first
            | exact ⟨t, by omega, by go_num, hown5, hB4⟩
            | (simp [intOf]; omega)
        · subst hv
          have hcap := own_cap hO
          by_cases hco : c = o
          · obtain rfl : m = 0 := by omega
            subst hco
            have hnil : D.drop c = [] := List.drop_eq_nil_of_le (by omega)
            have hI : ∀ (W : World) A, IRow W W.heap.size A ((D.drop c).map Int.ofNat) := fun W A i x h => by rw [hnil] at h; simp at h
            clear hnil
            have o1 : (0 : Int) ≤ (c : Int) := by omega
            have o2 : (c : Int) ≤ (c : Int) + (0 : Int) := by omega
            go_wp2_with (go_at_call 37; refine (HA.out _).mono ?_; rintro e w2 ⟨rfl, hb2⟩)
            have hB2 := hB.trans (hb2.mono hB.size)
            have hO2 := own_of_block hO (fun i hi => hb2.block i (hO.lt i hi).2)
            go_region_held3 (fun _ => True) (trivial) (first
              | (go_at_call 48; refine (HG.out _ _ _ (hI _ _)).mono ?_; rintro e w3 ⟨rfl, hb3⟩; have hB3 := (hB2.drew).trans (hb3.mono hB2.size); have hO3 := own_of_block (hO2.drew) (fun i hi => hb3.block i (hO2.lt i hi).2))
              | (refine step_append_lies _ (by rfl) _ _ _ (by rfl) w.heap.size 3 ig _ 1 8 Try.underlying22 hig hz0 hz1 hz2 rfl (by omega) _ c _ (by rfl) ((HT.out _ _ _ hO3).alloc _) ⟨w3.heap.size, 0, none⟩ 1 1 [.int .i64 (1 + (M : Int))] (by rfl) (by rfl) (World.news_of_block (cs := #[.int .i64 (1 + (M : Int))]) (t := 3) (fr := (0, 0)) (heap_alloc_new w3 _)) (by simp [Value.oneCell']) (by omega) (by simp only [maxLen]; omega) (by omega) (by have := hB3.size; simp; omega) (w3.heap.size + 1) (by simp) ?_; intro gg cap4 w4 hown4 hgrow hat hlt4)
              | fail)
            all_goals have hB4 : Below w.heap.size w w4 := (hB3.alloc hB3.size _).grown hgrow (by have := hB3.size; simp; omega) (fun k e => (hO3.lt k e).1)
            all_goals have hown5 := HF.out _ _ hown4
            all_goals clear hgrow hat hown4
            all_goals go_wp2_with fail
            all_goals go_roundw
            all_goals first
              | exact ⟨t, by omega, by go_num, hown5, hB4⟩
              | (simp [intOf]; omega)
          · have o1 : (0 : Int) ≤ (o : Int) := by omega
            have o2 : (o : Int) ≤ (o : Int) + (m : Int) := by omega
            have o3 : (o : Int) ≤ (c : Int) := by omega
            go_wp2_with (go_at_call 37; refine (HA.out _).mono ?_; rintro e w2 ⟨rfl, hb2⟩)
            have hB2 := hB.trans (hb2.mono hB.size)
            have hO2 := own_of_block hO (fun i hi => hb2.block i (hO.lt i hi).2)
            go_region_held3 (fun _ => True) (trivial) (first
              | (go_at_call 48; refine (HG.out _ _ _ (own_tail (hO2.drew) o)).mono ?_; rintro e w3 ⟨rfl, hb3⟩; have hB3 := (hB2.drew).trans (hb3.mono hB2.size); have hO3 := own_of_block (hO2.drew) (fun i hi => hb3.block i (hO2.lt i hi).2))
              | (refine step_append_lies _ (by rfl) _ _ _ (by rfl) w.heap.size 3 ig _ 1 8 Try.underlying22 hig hz0 hz1 hz2 rfl (by omega) _ o _ (by rfl) ((HT.out _ _ _ hO3).alloc _) ⟨w3.heap.size, 0, none⟩ 1 1 [.int .i64 (1 + (M : Int))] (by rfl) (by rfl) (World.news_of_block (cs := #[.int .i64 (1 + (M : Int))]) (t := 3) (fr := (0, 0)) (heap_alloc_new w3 _)) (by simp [Value.oneCell']) (by omega) (by simp only [maxLen]; omega) (by omega) (by have := hB3.size; simp; omega) (w3.heap.size + 1) (by simp) ?_; intro gg cap4 w4 hown4 hgrow hat hlt4)
              | fail)
            all_goals have hB4 : Below w.heap.size w w4 := (hB3.alloc hB3.size _).grown hgrow (by have := hB3.size; simp; omega) (fun k e => (hO3.lt k e).1)
            all_goals have hown5 := HF.out _ _ hown4
            all_goals clear hgrow hat hown4
            all_goals go_wp2_with fail
            all_goals go_roundw
            all_goals first
              | exact ⟨t, by omega, by go_num, hown5, hB4⟩
              | (simp [intOf]; omega)

end Go.Proofs.Yteknfglfbkknaaa.Arena
