/-
  The laws of layer 8, walked: a node and all below it; what is replaced is there; all else stays.
-/
import Derived.Test.YtoloocnpgmpnpaaArenaLawA
import Derived.Deep.QuietTactic
namespace Go.Proofs.Ytoloocnpgmpnpaa.Arena
open Go.RowKit Mem
set_option linter.unusedVariables false
attribute [local go_sem ↓] Go.wp_at_zero Go.wp_at_succ

theorem Part_any' (A : Option Addr) (cap : Nat) (xs : List Nd) (a : Int) (w : World) (hx : Nodes w w.heap.size A xs) (hA : A = none → cap = 0) (hcap : xs.length ≤ cap) (hl : xs.length ≤ 1000000) :
    Calls Try.prog 18 #[.slice A xs.length cap, .int .i64 a] w (NodesEnds (apart xs a) w) := Part_any A cap xs a w hx hA hcap hl
theorem Replace_any' (A : Option Addr) (cap : Nat) (xs : List Nd) (a : Int) (A' : Option Addr) (cap' : Nat) (ms : List Nd) (w : World) (hx : Nodes w w.heap.size A xs) (hA : A = none → cap = 0) (hcap : xs.length ≤ cap) (hl : xs.length ≤ 1000000)
    (hm : Nodes w w.heap.size A' ms) (hA' : A' = none → cap' = 0) (hl' : ms.length ≤ 1000000) :
    Calls Try.prog 20 #[.slice A xs.length cap, .int .i64 a, .slice A' ms.length cap'] w (NodesEnds (arep xs a ms) w) := Replace_any A cap xs a A' cap' ms w hx hA hcap hl hm hA' hl'
theorem flat_snoc {α : Type} (f : Int → List α) (ks : List Int) (j : Nat) (q : Int) (h : ks[j]? = some q) : (ks.take (j + 1)).flatMap f = (ks.take j).flatMap f ++ f q := by
  rw [take_snoc ks j q h, List.flatMap_append]; simp
theorem flat_take_le {α : Type} (f : Int → List α) (ks : List Int) (j : Nat) : ((ks.take j).flatMap f).length ≤ (ks.flatMap f).length := by
  conv => rhs; rw [← List.take_append_drop j ks]
  rw [List.flatMap_append, List.length_append]; omega

theorem fresh_of {v v' : Value} {w : World} {ad1 : Addr} (hN : ∀ ad, some ad1 = some ad → v.ownBlock ≠ some ad.block) (hat : v'.ownBlock = v.ownBlock ∨ v'.ownBlock = some w.heap.size) (hb : ad1.block < w.heap.size) : ∀ ad, some ad1 = some ad → v'.ownBlock ≠ some ad.block := by
  intro ad e q
  cases e
  rcases hat with h | h
  · exact hN _ rfl (h ▸ q)
  · rw [h] at q; simp at q; omega
theorem IRow.grown {w w' : World} {A : Option Addr} {ks : List Int} {row : Option Nat} (h : IRow w w.heap.size A ks) (hg : w.grownBy w' row) (hne : ∀ ad, A = some ad → row ≠ some ad.block) : IRow w' w'.heap.size A ks := by
  intro i x hx
  obtain ⟨ad, e, h1, h3⟩ := h i x hx
  refine ⟨ad, e, Nat.lt_of_lt_of_le h1 hg.size, ?_⟩
  rw [← h3]
  unfold World.cell?
  rw [add_blockN, hg.block _ h1 (fun q => hne ad e q.symm)]

set_option maxRecDepth 100000 in
set_option maxHeartbeats 4000000 in
theorem arenaParts_walk (A : Option Addr) (cap : Nat) (xs : List Nd) (hlen : xs.length ≤ maxLen) (hcap : xs.length ≤ cap) (hA : A = none → cap = 0) (a : Int) (wf : (Lit.int .i64 a).wf = true) (w : World)
    (hx : Nodes w w.heap.size A xs) :
    Calls Try.prog 5 #[.slice A xs.length cap, .int .i64 a] w fun e w' => e = .returned (.bool true) ∧ Below w.heap.size w w' := by
  have HW := Lib.hid (fun W => works_any W)
  by_cases h1 : 80 < xs.length
  · have e1 : (80 : Int) < (xs.length : Int) := by omega
    go_enter Try.func5, Try.ntmps5
    go_wp2_with (go_at_call 8; refine (HW.out _).mono ?_; rintro e w1 ⟨rfl, hb1⟩)
    go_ret
    exact ⟨rfl, hb1⟩
  have e1 : ¬ (80 : Int) < (xs.length : Int) := by omega
  have hl : xs.length ≤ 1000000 := by omega
  have HX := Lib.hid hx
  have H7 := Lib.hid (fun W (hW : Nodes W W.heap.size A xs) => End_any A cap xs a W hW hl)
  rcases aend_cases xs a with he | ⟨k, n, rfl, hs, he, hn1, hn2⟩
  · rw [he] at H7
    clear he
    go_enter Try.func5, Try.ntmps5
    go_wp2_with (first
      | (go_at_call 8; refine (HW.out _).mono ?_; rintro e w1 ⟨rfl, hB⟩; have hX := HX.out.at hB)
      | (go_at_call 22; refine (H7.out _ hX).mono ?_; rintro e w2 ⟨rfl, hb⟩; have hB := below2 hB hb))
    go_ret
    exact ⟨rfl, hB⟩
  · rw [he] at H7
    obtain ⟨x, hxk, hkl, hx0, hpart⟩ := part_kids hs
    have hplen := part_len hs
    have hlt := fun q hq => adep_kid hs (q := q) hq
    obtain ⟨m, hm⟩ := Int.eq_ofNat_of_zero_le hx0
    rw [hm, Int.toNat_natCast] at hkl
    have hm200 := (ar_le x).2
    rw [hm] at hm200
    have H1 := Lib.hid (fun W (hW : Nodes W W.heap.size A xs) => Kids_any A cap xs (k : Int) W hW hl)
    have H3 := Lib.hid (fun (q : Int) W (hW : Nodes W W.heap.size A xs) => Part_any A cap xs q W hW hA hcap hl)
    have H9 := Lib.hid (fun (q : Int) W (hW : Nodes W W.heap.size A xs) => Depth_any A cap xs q W hW hl)
    have H5 := Lib.hid (fun W => Arity_any x.1 x.2 W)
    rw [show ar (x.1, x.2) = (m : Int) from hm] at H5
    obtain ⟨K, hK⟩ : ∃ K, akids xs (k : Int) = K := ⟨_, rfl⟩
    rw [hK] at hkl hpart hlt H1
    have hpl : (apart xs (k : Int)).length ≤ 1000000 := by omega
    have hK200 : K.length ≤ 200 := by omega
    have HK := Lib.hid hkl
    have HP := Lib.hid hpart
    have HL := Lib.hid hlt
    have HPL := Lib.hid hplen
    have HXK := Lib.hid hxk
    have hfl : (K.flatMap (apart xs)).length + 1 = n := by rw [← hplen, hpart, List.length_cons]
    have HFL := Lib.hid hfl
    have i1 : (k : Int) < (xs.length : Int) := by omega
    have i2 : (0 : Int) ≤ (k : Int) := by omega
    have i3 : ¬ (k : Int) + (n : Int) < 0 := by omega
    have v1 : IntKind.i64.wrap ((k : Int) + (n : Int)) = (k : Int) + (n : Int) := IntWalk.i64_in _ (by omega)
    have S2 := Lib.hid (fun A c A' c' W h h' => ref_Same_any A c (apart xs (k : Int)) A' c' (apart xs (k : Int)) W h h' hpl)
    rw [show decide (apart xs (k : Int) = apart xs (k : Int)) = true by simp] at S2
    clear he hxk hkl hx0 hpart hplen hlt hm hK hs hfl hx
    go_enter Try.func5, Try.ntmps5
    go_wp2_with (first
      | (go_at_call 8; refine (HW.out _).mono ?_; rintro e w1 ⟨rfl, hB⟩; have hX := HX.out.at hB)
      | (go_at_call 22; refine (H7.out _ hX).mono ?_; rintro e w2 ⟨rfl, hb⟩; have hX := hX.at hb; have hB := below2 hB hb; obtain ⟨ad, rfl, hbk, g0, g1⟩ := hX k x HXK.out))
    have hb3 : Below w2.heap.size w2 (w2.alloc (.cells #[.int .i64 x.1, .int .i64 x.2] 24)) := (Below.refl _ _).alloc (Nat.le_refl _) _
    have hO := World.ownsRow_lit (e := 24) (size := 2) (base := w.heap.size) w2 #[.int .i64 x.1, .int .i64 x.2] 1 hB.size (by simp [maxLen]) rfl
    have hX3 := hX.at hb3
    have hB3 := below2 hB (hb3.mono (Nat.le_refl _))
    clear hX hB hb3
    have hg : w2.heap.size < (w2.alloc (.cells #[.int .i64 x.1, .int .i64 x.2] 24)).heap.size := by simp
    generalize w2.alloc (.cells #[.int .i64 x.1, .int .i64 x.2] 24) = w3 at *
    generalize w2.heap.size = g at *
    refine (H1.out _ hX3).mono ?_
    rintro e w4 ⟨hb4, A1, c1, rfl, hR, hF⟩
    have hO := own_of_block hO (fun i hi => hb4.block i (hO.lt i hi).2)
    have hB := below2 hB3 hb4
    clear hX3 hb4 hB3
    go_wp2_with fail
    go_loopw [6, 8] (fun v i wr => ∃ j : Nat, j ≤ K.length ∧ i = .int .i64 j ∧ wr.ownsRow w.heap.size 24 2 v (x :: (K.take j).flatMap (apart xs)).length (ncells (x :: (K.take j).flatMap (apart xs))) ∧ Below w.heap.size w wr ∧ IRow wr wr.heap.size A1 K ∧ ∀ ad, A1 = some ad → v.ownBlock ≠ some ad.block) (fun _ i _ => K.length - (intOf i).toNat)
    case atStart => exact ⟨0, by omega, rfl, hO, hB, hR, fun ad e q => by have := hF ad e; simp [Value.ownBlock] at q; omega⟩
    case round =>
      obtain ⟨j, hj, rfl, hO, hB, hR, hN⟩ := hrel
      by_cases hlt : j < K.length
      · obtain ⟨q, hq⟩ : ∃ q, K[j]? = some q := ⟨_, List.getElem?_eq_getElem hlt⟩
        obtain ⟨ad1, rfl, hbk1, g2⟩ := hR j q hq
        have hsn := flat_snoc (apart xs) K j q hq
        have hle := flat_take_le (apart xs) K (j + 1)
        rw [hsn, List.length_append] at hle
        have hfl := HFL.out
        have HSN := Lib.hid (show (x :: (K.take j).flatMap (apart xs)) ++ apart xs q = x :: (K.take (j + 1)).flatMap (apart xs) by rw [hsn]; rfl)
        have hdl := HL.out q (List.mem_of_getElem? hq)
        have j1 : (j : Int) < (K.length : Int) := by omega
        have j2 : (0 : Int) ≤ (j : Int) := by omega
        have HQ := Lib.hid hq
        have H3q := Lib.hid (H3.out q)
        have H9q := Lib.hid (H9.out q)
        have H9k := Lib.hid (H9.out (k : Int))
        obtain ⟨d1, hd1⟩ : ∃ d, adep xs q = d := ⟨_, rfl⟩
        obtain ⟨d2, hd2⟩ : ∃ d, adep xs (k : Int) = d := ⟨_, rfl⟩
        rw [hd1] at H9q hdl
        rw [hd2] at H9k hdl
        obtain ⟨P, hP⟩ : ∃ P, apart xs q = P := ⟨_, rfl⟩
        rw [hP] at H3q HSN hle
        have hc9 : ¬ (d2 : Int) ≤ (d1 : Int) := by omega
        have hLL : (x :: (K.take j).flatMap (apart xs)).length + P.length ≤ 100000000 := by rw [List.length_cons]; omega
        generalize (x :: (K.take j).flatMap (apart xs)) = L at *
        obtain ⟨L2, hL2⟩ : ∃ L2, (x :: (K.take (j + 1)).flatMap (apart xs)) = L2 := ⟨_, rfl⟩
        rw [hL2] at HSN
        have HL2 := Lib.hid hL2
        clear hL2
        clear hsn hq hd1 hd2 hP hdl hle hfl
        go_wp2_with (first
          | (go_at_call 18; refine (H3q.out _ (HX.out.at hB)).mono ?_; rintro e w5 ⟨hb5, A3, c3, rfl, hc3, hA3, hN3⟩; have hO5 := own_of_block hO (fun i hi => hb5.block i (hO.lt i hi).2); have hB5 := below2 hB hb5; have hR5 := hR.at hb5)
          | (at_builtin; refine append_nodes rfl _ _ rfl w.heap.size hB5.size _ L rfl hO5 w5.heap.size A3 c3 P _ rfl rfl hA3 hN3 hLL ?_; intro v6 w6 hO6 hg6 hat6; rw [HSN.out] at hO6; have hB6 := hB5.grown hg6 hB5.size (fun i e => (hO5.lt i e).1); have hR6 := hR5.grown hg6 hN; have hN6 := fresh_of hN hat6 (Nat.lt_of_lt_of_le hbk1 hb5.size); obtain ⟨ad2, q2, hbk2, g3⟩ := hR6 j _ HQ.out; cases q2)
          | (go_at_call 24; first
              | ((with_reducible refine (H9q.out _ (HX.out.at hB6)).mono ?_); rintro e w7 ⟨rfl, hb7⟩; have hB7 := below2 hB6 hb7; have hR7 := hR6.at hb7; have hO7 := own_of_block hO6 (fun i hi => hb7.block i (hO6.lt i hi).2))
              | ((with_reducible refine (H9k.out _ (HX.out.at hB7)).mono ?_); rintro e w8 ⟨rfl, hb8⟩; have hB8 := below2 hB7 hb8; have hR8 := hR7.at hb8; have hO8 := own_of_block hO7 (fun i hi => hb8.block i (hO7.lt i hi).2))))
        go_roundw
        case rel => exact ⟨j + 1, by omega, by go_num, by rw [HL2.out]; exact hO8, hB8, hR8, hN6⟩
        case measure => simp [intOf]; omega
      · have hj9 : j = K.length := by omega
        subst hj9
        rw [List.take_length, ← HP.out] at hO
        obtain ⟨A5, c5, rfl, hc5, hA5, hN5⟩ := own_nodes hO
        have hkl := HK.out
        have hP9 := HPL.out
        have H3k := Lib.hid (H3.out (k : Int))
        obtain ⟨P, hP⟩ : ∃ P, apart xs (k : Int) = P := ⟨_, rfl⟩
        rw [hP] at H3k S2 hN5 hP9
        rw [hP]
        have v2 : IntKind.i64.wrap ((k : Int) + (P.length : Int)) = (k : Int) + (n : Int) := by rw [hP9]; exact v1
        have e9 : ((K.length : Int) == (m : Int)) = true := by rw [beq_iff_eq, hkl]
        have j1 : ¬ (K.length : Int) < (K.length : Int) := by omega
        clear hP hO hc5 hA5 hP9 hkl v1
        go_wp2_with (first
          | (go_at_call 18; refine (H3k.out _ (HX.out.at hB)).mono ?_; rintro e w5 ⟨hb5, A3, c3, rfl, hc3, hA3, hN3⟩; have hB5 := below2 hB hb5; have hN5 := hN5.at hb5)
          | (go_at_call 9; refine (S2.out _ _ _ _ _ hN5 hN3).mono ?_; rintro e w6 ⟨rfl, hb6⟩; have hB6 := below2 hB5 hb6; obtain ⟨ad2, q2, hbk2, g3, g4⟩ := (HX.out.at hB6) k x HXK.out; cases q2)
          | (go_at_call 10; refine (H5.out _).mono ?_; rintro e w7 ⟨rfl, hb7⟩; have hB7 := below2 hB6 hb7)
          | (go_at_call 22; refine (H7.out _ (HX.out.at hB7)).mono ?_; rintro e w8 ⟨rfl, hb8⟩; have hB8 := below2 hB7 hb8))
        go_ret
        exact ⟨ret_true (by simp), hB8⟩

theorem whole_of {ys : List Nd} (h : aend ys 0 = ys.length) : scan 1 ys = some ys.length := by
  rcases aend_cases ys 0 with h' | ⟨k, n, hk, hs, he, -⟩
  · rw [h'] at h; omega
  · obtain rfl : k = 0 := by omega
    rw [List.drop_zero] at hs
    rw [he] at h
    rw [hs]; congr 1; omega

set_option maxRecDepth 100000 in
set_option maxHeartbeats 4000000 in
theorem arenaBack_walk (A : Option Addr) (cap : Nat) (xs : List Nd) (hlen : xs.length ≤ maxLen) (hcap : xs.length ≤ cap) (hA : A = none → cap = 0) (a : Int) (wf : (Lit.int .i64 a).wf = true) (A' : Option Addr) (cap' : Nat) (ys : List Nd) (hlen' : ys.length ≤ maxLen) (hcap' : ys.length ≤ cap') (hA' : A' = none → cap' = 0) (w : World)
    (hx : Nodes w w.heap.size A xs) (hy : Nodes w w.heap.size A' ys) :
    Calls Try.prog 6 #[.slice A xs.length cap, .int .i64 a, .slice A' ys.length cap'] w fun e w' => e = .returned (.bool true) ∧ Below w.heap.size w w' := by
  have HW := Lib.hid (fun W => works_any W)
  have HX := Lib.hid hx
  have HY := Lib.hid hy
  clear hx hy
  by_cases h1 : 80 < xs.length
  · have e1 : (80 : Int) < (xs.length : Int) := by omega
    go_enter Try.func6, Try.ntmps6
    go_wp2_with (go_at_call 8; refine (HW.out _).mono ?_; rintro e w1 ⟨rfl, hB⟩; have hX := HX.out.at hB; have hY := HY.out.at hB)
    go_ret
    exact ⟨rfl, hB⟩
  have e1 : ¬ (80 : Int) < (xs.length : Int) := by omega
  by_cases h2 : 80 < ys.length
  · have e2 : (80 : Int) < (ys.length : Int) := by omega
    go_enter Try.func6, Try.ntmps6
    go_wp2_with (go_at_call 8; refine (HW.out _).mono ?_; rintro e w1 ⟨rfl, hB⟩; have hX := HX.out.at hB; have hY := HY.out.at hB)
    go_ret
    exact ⟨rfl, hB⟩
  have e2 : ¬ (80 : Int) < (ys.length : Int) := by omega
  have hl : xs.length ≤ 1000000 := by omega
  have hl' : ys.length ≤ 1000000 := by omega
  have H7 := Lib.hid (fun W (hW : Nodes W W.heap.size A xs) => End_any A cap xs a W hW hl)
  have H8 := Lib.hid (fun W (hW : Nodes W W.heap.size A' ys) => End_any A' cap' ys 0 W hW hl')
  rcases aend_cases xs a with he | ⟨k, n, rfl, hs, he, hn1, hn2⟩
  · rw [he] at H7
    clear he
    go_enter Try.func6, Try.ntmps6
    go_wp2_with (first
      | (go_at_call 8; refine (HW.out _).mono ?_; rintro e w1 ⟨rfl, hB⟩; have hX := HX.out.at hB; have hY := HY.out.at hB)
      | (go_at_call 22; refine (H7.out _ hX).mono ?_; rintro e w2 ⟨rfl, hb⟩; have hB := below2 hB hb))
    go_ret
    exact ⟨rfl, hB⟩
  rw [he] at H7
  have i3 : ¬ (k : Int) + (n : Int) < 0 := by omega
  clear he
  by_cases h3 : aend ys 0 = ys.length
  · have hwy := whole_of h3
    rw [h3] at H8
    have e3 : ((ys.length : Int) != (ys.length : Int)) = false := by simp
    obtain ⟨t1, t2, t3⟩ := rep_there hs hwy
    have hpl := part_len hs
    have hrl : (arep xs (k : Int) ys).length = xs.length - n + ys.length := by
      obtain ⟨q1, q2⟩ := split3 hs
      rw [rep_is hs, List.length_append, List.length_append, q2, List.length_drop]
      omega
    have H1 := Lib.hid (fun W (hW : Nodes W W.heap.size A xs) => Part_any A cap xs (k : Int) W hW hA hcap hl)
    have H2 := Lib.hid (fun W (hW : Nodes W W.heap.size A xs) (hW' : Nodes W W.heap.size A' ys) => Replace_any A cap xs (k : Int) A' cap' ys W hW hA hcap hl hW' hA' hl')
    obtain ⟨R, hR⟩ : ∃ R, arep xs (k : Int) ys = R := ⟨_, rfl⟩
    obtain ⟨P, hP⟩ : ∃ P, apart xs (k : Int) = P := ⟨_, rfl⟩
    rw [hR] at t1 t2 t3 hrl H2
    rw [hP] at t3 hpl H1
    have hRl : R.length ≤ 1000000 := by omega
    have hPl : P.length ≤ 1000000 := by omega
    have H3 := Lib.hid (fun A1 c1 W (hA1 : A1 = none → c1 = 0) (hc1 : R.length ≤ c1) (hW : Nodes W W.heap.size A1 R) => t2 ▸ Part_any' A1 c1 R (k : Int) W hW hA1 hc1 hRl)
    have H4 := Lib.hid (fun A1 c1 A2 c2 W (hA1 : A1 = none → c1 = 0) (hc1 : R.length ≤ c1) (hW : Nodes W W.heap.size A1 R) (hA2 : A2 = none → c2 = 0) (hW2 : Nodes W W.heap.size A2 P) => t3 ▸ Replace_any' A1 c1 R (k : Int) A2 c2 P W hW hA1 hc1 hRl hW2 hA2 hPl)
    have S1 := Lib.hid (fun A c A' c' W h h' => ref_Same_any A c ys A' c' ys W h h' hl')
    have S2 := Lib.hid (fun A c A' c' W h h' => ref_Same_any A c xs A' c' xs W h h' hl)
    rw [show decide (ys = ys) = true by simp] at S1
    rw [show decide (xs = xs) = true by simp] at S2
    have v1 : IntKind.i64.wrap ((xs.length : Int) - (P.length : Int)) = (xs.length : Int) - (P.length : Int) := IntWalk.i64_in _ (by omega)
    have v2 : IntKind.i64.wrap ((xs.length : Int) - (P.length : Int) + (ys.length : Int)) = (xs.length : Int) - (P.length : Int) + (ys.length : Int) := IntWalk.i64_in _ (by omega)
    have e9 : ((R.length : Int) == (xs.length : Int) - (P.length : Int) + (ys.length : Int)) = true := by rw [beq_iff_eq, hrl, hpl]; omega
    clear hs h3 hwy t1 t2 t3 hR hP hrl hpl
    go_enter Try.func6, Try.ntmps6
    go_wp2_with (first
      | (go_at_call 8; refine (HW.out _).mono ?_; rintro e w1 ⟨rfl, hB⟩; have hX := HX.out.at hB; have hY := HY.out.at hB)
      | (go_at_call 22; first
          | ((with_reducible refine (H7.out _ hX).mono ?_); rintro e w2 ⟨rfl, hb⟩; have hX := hX.at hb; have hY := hY.at hb; have hB := below2 hB hb)
          | ((with_reducible refine (H8.out _ hY).mono ?_); rintro e w2 ⟨rfl, hb⟩; have hX := hX.at hb; have hY := hY.at hb; have hB := below2 hB hb))
      | (go_at_call 18; first
          | ((with_reducible refine (H3.out _ _ _ hA2 hc2 hN2).mono ?_); rintro e w5 ⟨hb, A3, c3, rfl, hc3, hA3, hN3⟩; have hX := hX.at hb; have hY := hY.at hb; have hB := below2 hB hb; have hN1 := hN1.at hb; have hN2 := hN2.at hb)
          | ((with_reducible refine (H1.out _ hX).mono ?_); rintro e w3 ⟨hb, A1, c1, rfl, hc1, hA1, hN1⟩; have hX := hX.at hb; have hY := hY.at hb; have hB := below2 hB hb))
      | (go_at_call 20; first
          | ((with_reducible refine (H4.out _ _ _ _ _ hA2 hc2 hN2 hA1 hN1).mono ?_); rintro e w6 ⟨hb, A4, c4, rfl, hc4, hA4, hN4⟩; have hX := hX.at hb; have hY := hY.at hb; have hB := below2 hB hb)
          | ((with_reducible refine (H2.out _ hX hY).mono ?_); rintro e w4 ⟨hb, A2, c2, rfl, hc2, hA2, hN2⟩; have hX := hX.at hb; have hY := hY.at hb; have hB := below2 hB hb; have hN1 := hN1.at hb))
      | (go_at_call 9; first
          | ((with_reducible refine (S2.out _ _ _ _ _ hN4 hX).mono ?_); rintro e w7 ⟨rfl, hb⟩; have hB := below2 hB hb)
          | ((with_reducible refine (S1.out _ _ _ _ _ hN3 hY).mono ?_); rintro e w7 ⟨rfl, hb⟩; have hX := hX.at hb; have hY := hY.at hb; have hB := below2 hB hb; have hN1 := hN1.at hb; have hN2 := hN2.at hb)))
    go_ret
    exact ⟨ret_true (by simp), hB⟩
  · obtain ⟨E, hE⟩ : ∃ E, aend ys 0 = E := ⟨_, rfl⟩
    rw [hE] at H8 h3
    have e3 : (E != (ys.length : Int)) = true := by simpa using h3
    clear hE h3
    go_enter Try.func6, Try.ntmps6
    go_wp2_with (first
      | (go_at_call 8; refine (HW.out _).mono ?_; rintro e w1 ⟨rfl, hB⟩; have hX := HX.out.at hB; have hY := HY.out.at hB)
      | (go_at_call 22; first
          | ((with_reducible refine (H7.out _ hX).mono ?_); rintro e w2 ⟨rfl, hb⟩; have hX := hX.at hb; have hY := hY.at hb; have hB := below2 hB hb)
          | ((with_reducible refine (H8.out _ hY).mono ?_); rintro e w2 ⟨rfl, hb⟩; have hX := hX.at hb; have hY := hY.at hb; have hB := below2 hB hb)))
    go_ret
    exact ⟨rfl, hB⟩

end Go.Proofs.Ytoloocnpgmpnpaa.Arena
