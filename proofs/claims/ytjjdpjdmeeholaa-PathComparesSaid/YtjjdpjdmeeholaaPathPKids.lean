/-
  Package path, walked: each kid's number and place, told to a loop's body; the node of a path.
-/
import Derived.Test.YtjjdpjdmeeholaaPathPSmall
namespace Go.Proofs.Ytjjdpjdmeeholaa.Path
open Go.RowKit Go.Shelf Mem _root_.Go.Proofs.Ytjjdpjdmeeholaa.Arena _root_.Go.Proofs.Ytjjdpjdmeeholaa.RangeO
set_option linter.unusedVariables false

attribute [local go_sem] Oper.semAt_some

/-- A kid's place. -/
def kid (xs : List Nd) (a : Int) (j : Nat) : Int := (akids xs a).getD j 0
theorem kid_some {xs : List Nd} {a : Int} {j : Nat} (h : j < (akids xs a).length) : (akids xs a)[j]? = some (kid xs a j) := by
  unfold kid
  rw [List.getD_eq_getElem?_getD, List.getElem?_eq_getElem h]
  rfl
/-- What is told of a node's kids. -/
def krow (xs : List Nd) (a : Int) : List (Int × Int) := (List.range (akids xs a).length).map fun (j : Nat) => ((j : Int), kid xs a j)
theorem krow_len (xs : List Nd) (a : Int) : (krow xs a).length = (akids xs a).length := by simp [krow]
theorem krow_get {xs : List Nd} {a : Int} {j : Nat} (h : j < (akids xs a).length) : (krow xs a)[j]? = some ((j : Int), kid xs a j) := by
  unfold krow
  rw [List.getElem?_map, List.getElem?_range h]
  rfl
theorem krow_snoc {xs : List Nd} {a : Int} {j : Nat} (h : j < (akids xs a).length) : (krow xs a).take (j + 1) = (krow xs a).take j ++ [((j : Int), kid xs a j)] := by
  rw [List.take_add_one, krow_get h]
  rfl
theorem kid_next {xs : List Nd} {a n j : Nat} (h : T xs a n) (hj : j < (akids xs a).length) : (j = 0 → kid xs a j = (a : Int) + 1) ∧ (∀ i, j = i + 1 → aend xs (kid xs a i) = kid xs a j) ∧ 0 ≤ kid xs a j ∧ kid xs a j ≤ (xs.length : Int) := by
  obtain ⟨x, c, -, -, -, hc, -, -, hn, hk⟩ := kid_scan h
  obtain ⟨r, m, s1, s2, s3, s4, s5⟩ := hk j (by omega)
  rw [kid_some hj] at s2
  have e := Option.some.inj s2
  have := s3.pos
  refine ⟨fun h0 => ?_, fun i hi => ?_, by omega, by omega⟩
  · subst h0
    rw [scan_0] at s1
    have := Option.some.inj s1
    omega
  · subst hi
    obtain ⟨r', m', t1, t2, t3, t4, t5⟩ := hk i (by omega)
    rw [kid_some (by omega)] at t2
    have e' := Option.some.inj t2
    rw [t4] at s1
    have := Option.some.inj s1
    rw [e', T.end t3, e]
    omega

set_option maxRecDepth 100000 in
set_option maxHeartbeats 1000000 in
theorem kids1_stops (Bl Ba B : Nat) (A : Option Addr) (cap : Nat) (xs : List Nd) (a n : Nat) (w : World) (hl : xs.length ≤ 1000000) (ht : T xs a n) (hx : Nodes w B A xs) (hB : B ≤ w.heap.size) (hBl : Bl < w.heap.size) (hBa : Ba < w.heap.size)
    (hcl : w.cell? ⟨Bl, 0, none⟩ = some (.slice A xs.length cap)) (hca : w.cell? ⟨Ba, 0, none⟩ = some (.int .i64 a)) :
    SeqStopsK Fence.wide 3 Try.prog 28 #[.pointer (some ⟨Ba, 0, none⟩), .pointer (some ⟨Bl, 0, none⟩)] told (Below w.heap.size) (fun ys => ys = krow xs a) (fun pre => pre <+: krow xs a) 1000001 w := by
  intro l J Jx W hW hJ _ hY h0
  have hJ' : ∀ s W1 W2, J s W1 → Below W1.heap.size W1 W2 → J s W2 := fun s W1 W2 h hb => hJ s W1 W2 none h (grown_below hb) (fun r e => by cases e)
  have HX := Lib.hid (fun W1 (h : Below w.heap.size w W1) => (hx.keep (w' := W1) (fun k hk => h.block k (by omega))).below (B := B) (w' := W1) (Below.refl _ _))
  have HXE := Lib.hid (fun k W1 (h : Below w.heap.size w W1) => End_any A cap xs k W1 (fun i x hi => by
    obtain ⟨ad, e, h1, h2⟩ := (hx.keep (w' := W1) (fun k hk => h.block k (by omega))) i x hi
    exact ⟨ad, e, by have := h.size; omega, h2⟩) hl)
  have HL := Lib.hid (fun W1 (h : Below w.heap.size w W1) => (h.cell (p := ⟨Bl, 0, none⟩) hBl).trans hcl)
  have HA := Lib.hid (fun W1 (h : Below w.heap.size w W1) => (h.cell (p := ⟨Ba, 0, none⟩) hBa).trans hca)
  obtain ⟨x, c, hxk, har, hc, hkl, -, -, hn, -⟩ := kid_scan ht
  have hpos := ht.pos
  have HK := Lib.hid (fun j (hj : j < c) => kid_next ht (by rw [hkl]; exact hj))
  have HS := Lib.hid (fun j (hj : j < c) => krow_snoc (xs := xs) (a := (a : Int)) (j := j) (by rw [hkl]; exact hj))
  have HE := Lib.hid (show (krow xs a).take c = krow xs a from List.take_of_length_le (by rw [krow_len, hkl]; exact Nat.le_refl _))
  have HLEN := Lib.hid (show ∀ j, j ≤ c → ((krow xs a).take j).length = j from fun j hj => by rw [List.length_take, krow_len, hkl]; omega)
  have HAR := Lib.hid (fun W => Arity_any x.1 x.2 W)
  rw [show ar (x.1, x.2) = (c : Int) from har] at HAR
  obtain ⟨ad, hA, hbk, g0, g1⟩ := HX.out W hW a x hxk
  subst hA
  have hL := HL.out _ hW
  have hA0 := HA.out _ hW
  have i1 : (a : Int) < (xs.length : Int) := by omega
  have i2 : (0 : Int) ≤ (a : Int) := by omega
  have v1 : IntKind.i64.wrap ((a : Int) + 1) = (a : Int) + 1 := IntWalk.i64_in _ (by omega)
  have H0 := Lib.hid h0
  have HY := Lib.hid hY
  have HJ := Lib.hid hJ'
  have hf1 : Fence.wide.fn 14 := trivial
  have hf2 : Fence.wide.fn 26 := trivial
  clear hx hJ hJ' hcl hca hY h0 hxk har ht hn hpos
  generalize hR : krow xs a = R at *
  clear hR
  refine callsIn_of_wp Try.func28 rfl trivial ?_ rfl
  simp only [Try.ntmps28, List.size_toArray, List.length_cons, List.length_nil, Nat.reduceAdd, Nat.reduceSub, Array.replicate_succ, Array.replicate_zero, List.push_toArray, List.append_toArray, List.nil_append, List.cons_append]
  gi_wp2_with (gi_at_call 26; refine ((callsIn_wide (n := 2)).2 (HAR.out _)).mono ?_; rintro e w3 ⟨rfl, hb3⟩)
  have hB3 := hW.trans (hb3.mono hW.size)
  gi_loopw [4, 13] (fun q i wr => ∃ k : Nat, k ≤ c ∧ i = .int .i64 k ∧ q = .int .i64 (if k = 0 then (a : Int) + 1 else kid xs a (k - 1)) ∧ J (R.take k) wr ∧ Below w.heap.size w wr) (fun _ i _ => c - (intOf i).toNat)
  case atStart => exact ⟨0, by omega, rfl, rfl, HJ.out _ _ _ H0.out hb3, hB3⟩
  case round =>
    obtain ⟨k, hk, rfl, rfl, hJk, hB⟩ := hrel
    by_cases hlt : k < c
    · have j1 : (k : Int) < (c : Int) := by omega
      obtain ⟨n0, n1, n2, n3⟩ := HK.out k hlt
      have hY1 := fun W1 (h : J (R.take k) W1) => HY.out _ ((k : Int), kid xs a k) W1 h (by rw [HLEN.out k hk]; omega)
      rw [← HS.out k hlt] at hY1
      have HY1 := Lib.hid hY1
      have htold : told ((k : Int), kid xs a k) = #[.int .i64 (k : Int), .int .i64 (kid xs a k)] := rfl
      rw [htold] at HY1
      have HP := Lib.hid (show R.take (k + 1) <+: R from List.take_prefix _ _)
      have j3 : IntKind.i64.wrap ((k : Int) + 1) = (k : Int) + 1 := IntWalk.i64_in _ (by omega)
      clear hY1
      rcases k with _ | i
      · rw [if_pos rfl]
        have z0 := n0 rfl
        rw [z0, show ((0 : Nat) : Int) = 0 from rfl] at HY1
        have j2 : ¬ (0 : Int) < ((0 : Nat) : Int) := by omega
        obtain ⟨fn, tmps, assign, body, hy, hR⟩ := HY1.out _ hJk
        clear n1 n0
        gi_wp2
        refine hR.mono ?_
        rintro e W4 (⟨rfl, hJ4, hK4⟩ | ⟨rfl, hJx4⟩)
        · gi_wp2
          go_roundw
          case rel => exact ⟨1, by omega, rfl, by rw [if_neg (by omega), ← z0], hJ4, hB.trans hK4⟩
          case measure => simp [intOf]; omega
        · gi_wp2
          refine bodyPost_ret (results_none rfl _ _ _) rfl ?_
          exact ⟨⟨_, rfl⟩, .inr ⟨_, HP.out, hJx4⟩⟩
      · rw [if_neg (by omega)]
        have z1 := n1 i rfl
        have j2 : (0 : Int) < ((i + 1 : Nat) : Int) := by omega
        rw [show ((i + 1 : Nat) : Int) = (i : Int) + 1 by omega] at HY1
        have hL2 := HL.out _ hB
        have HE2 := Lib.hid (HXE.out (kid xs a i) _ hB)
        rw [z1] at HE2
        rw [show i + 1 - 1 = i from rfl]
        clear n1 n0 z1
        gi_wp2_with (gi_at_call 14; refine ((callsIn_wide (n := 2)).2 HE2.out).mono ?_; rintro e w4 ⟨rfl, hb4⟩; have hJ4 := HJ.out _ _ _ hJk hb4; have hB4 := hB.trans (hb4.mono hB.size); obtain ⟨fn, tmps, assign, body, hy, hR⟩ := HY1.out _ hJ4)
        refine hR.mono ?_
        rintro e W4 (⟨rfl, hJ4, hK4⟩ | ⟨rfl, hJx4⟩)
        · gi_wp2
          go_roundw
          case rel => exact ⟨i + 1 + 1, by omega, by go_num, by rw [if_neg (by omega)]; rfl, hJ4, hB4.trans hK4⟩
          case measure => simp [intOf]; omega
        · gi_wp2
          refine bodyPost_ret (results_none rfl _ _ _) rfl ?_
          exact ⟨⟨_, rfl⟩, .inr ⟨_, HP.out, hJx4⟩⟩
    · have hk9 : k = c := by omega
      subst hk9
      have j1 : ¬ (k : Int) < (k : Int) := by omega
      rw [HE.out] at hJk
      gi_wp2
      all_goals first
        | (go_end0; exact ⟨⟨_, rfl⟩, .inl hJk⟩)
        | (go_end0; exact ⟨⟨_, rfl⟩, .inl ⟨_, rfl, hJk⟩⟩)
        | (refine bodyPost_ret (results_none rfl _ _ _) rfl ?_; exact ⟨⟨_, rfl⟩, .inl hJk⟩)

end Go.Proofs.Ytjjdpjdmeeholaa.Path
