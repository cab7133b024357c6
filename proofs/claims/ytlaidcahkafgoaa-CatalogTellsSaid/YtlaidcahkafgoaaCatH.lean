/-
  The laws of layer 13, walked: just the choices, each once, in order.
  The laws of layer 13, walked: what may be put in at a node hangs on it, and on what is below it, alone.
  Each choice, put in at the part's first node. No program is met here.
  A changed program in a box of its own: its nodes lie elsewhere.
  How many nodes there may be in a slice that came in.
-/
import Derived.Test.YtlaidcahkafgoaaCatLawA
import Derived.Deep.QuietTactic
import Derived.BigQuiet
import Derived.Test.YtlaidcahkafgoaaArenaH
set_option linter.unusedVariables false
namespace Go.Proofs.Ytlaidcahkafgoaa.Cat
open Go.RowKit Mem _root_.Go.Proofs.Ytlaidcahkafgoaa.Arena _root_.Go.Proofs.Ytlaidcahkafgoaa.Delta _root_.Go.Proofs.Ytlaidcahkafgoaa.Path
attribute [local go_sem ↓] Go.wp_at_zero Go.wp_at_succ

/-- What the functions of deltas that are met here come to. -/
structure DPkg : Prop where
  apply : ∀ (p : Kinds.Prg) (d : Dlt) (w : World), p.Ok w → d.Ok w → p.xs.length ≤ 100000 → Calls Try.prog 17 #[.agg #[.int .i64 p.ps, .slice p.A p.vs.length p.c, .slice p.B p.xs.length p.e], .agg #[.slice d.A d.p.length d.c, .int .i64 d.op, .int .i64 d.n]] w (AEnds p d w)
  compare : ∀ (a b : Dlt) (w : World), a.Ok w → b.Ok w → Calls Try.prog 14 #[.agg #[.slice a.A a.p.length a.c, .int .i64 a.op, .int .i64 a.n], .agg #[.slice b.A b.p.length b.c, .int .i64 b.op, .int .i64 b.n]] w fun e w' => e = .returned (.int .i64 (dcmp a.p a.op a.n b.p b.op b.n)) ∧ Below w.heap.size w w'
  same : ∀ (a b : Dlt) (w : World), a.Ok w → b.Ok w → Calls Try.prog 19 #[.agg #[.slice a.A a.p.length a.c, .int .i64 a.op, .int .i64 a.n], .agg #[.slice b.A b.p.length b.c, .int .i64 b.op, .int .i64 b.n]] w fun e w' => e = .returned (.bool (dcmp a.p a.op a.n b.p b.op b.n == 0)) ∧ Below w.heap.size w w'

/-- What the row is. -/
theorem chs_facts (l : List Nd) (a : Int) : Row (chs l a) ∧ (chs l a).length ≤ 5 ∧ ∀ op n, isv l a op n = decide ((op, n) ∈ chs l a) := by
  rcases aend_cases l a with he | ⟨k, m, rfl, hs, -, -, -⟩
  · have h1 : chs l a = [] := if_pos (by rw [he]; decide)
    have h2 : ∀ op n, isv l a op n = false := fun op n => if_pos (by rw [he]; decide)
    rw [h1]
    exact ⟨trivial, by decide, fun op n => by rw [h2]; simp⟩
  · rw [chs_some hs]
    have hb := bool_rng (arity_some hs).1
    obtain ⟨h1, h2⟩ := choices_row (nodeAt l k) (behind l k) hb
    refine ⟨h1, choices_len _ _ hb, fun op n => ?_⟩
    rw [isv_some hs]
    by_cases q : cis (nodeAt l k) (behind l k) op n = true
    · rw [q, decide_eq_true ((h2 op n).2 q)]
    · rw [decide_eq_false (fun z => q ((h2 op n).1 z))]
      simpa using q
theorem dcmp_lt {a b : Int × Int} (h : Lt a b) : dcmp [] a.1 a.2 [] b.1 b.2 < 0 := by
  have h0 : cmp ([] : List Int) [] = 0 := cmp_self _
  unfold dcmp
  rw [if_neg (by rw [h0]; decide)]
  unfold Lt at h
  unfold three
  repeat' split
  all_goals omega
theorem times_le (b : Int × Int) : ∀ L : List (Int × Int), times b L ≤ L.length
  | [] => Nat.le_refl _
  | a :: l => by
    have := times_le b l
    rw [times, List.length_cons]
    split <;> omega
theorem times_0 (b : Int × Int) (L : List (Int × Int)) : times b (L.take 0) = 0 := by rw [List.take_zero]; rfl
theorem times_step {L : List (Int × Int)} {j : Nat} {a : Int × Int} (h : L[j]? = some a) {op n : Int} : times (op, n) (L.take (j + 1)) = if a.1 = op ∧ a.2 = n then times (op, n) (L.take j) + 1 else times (op, n) (L.take j) := by
  rw [times_take h]
  by_cases q : a = (op, n)
  · rw [if_pos q, if_pos (by rw [q]; exact ⟨rfl, rfl⟩)]
  · rw [if_neg q, if_neg (fun z => q (Prod.ext z.1 z.2)), Nat.add_zero]

set_option maxRecDepth 100000 in
set_option maxHeartbeats 4000000 in
theorem catalogJust_of (C : Pkg) (D : DPkg) (A : Option Addr) (c : Nat) (l : List Nd) (hc : l.length ≤ c) (hA : A = none → c = 0) (at_ op n : Int) (w : World) (hx : Nodes w w.heap.size A l) :
    Calls Try.prog 4 #[.slice A l.length c, .int .i64 at_, .int .i64 op, .int .i64 n] w fun e w' => e = .returned (.bool true) ∧ Below w.heap.size w w' := by
  have HW := Lib.hid (fun W => works_any C W)
  have HX := Lib.hid (fun W (h : Below w.heap.size w W) => Nodes.at hx h)
  clear hx
  by_cases h1 : 60 < l.length
  · have j1 : (60 : Int) < (l.length : Int) := by omega
    go_enter Try.func4, Try.ntmps4
    go_wp2_with (go_at_call 8; refine (HW.out _).mono ?_; rintro e w2 ⟨rfl, hb2⟩)
    go_ret
    exact ⟨rfl, hb2⟩
  have j1 : ¬ (60 : Int) < (l.length : Int) := by omega
  obtain ⟨hR, hL, hI⟩ := chs_facts l at_
  have K1 := Lib.hid (fun W h => C.choices A c l at_ W h hc hA (by omega))
  have K3 := Lib.hid (fun W h => C.is A c l at_ op n W h hc hA (by omega))
  rw [hI op n] at K3
  unfold ChEnds at K1
  generalize chs l at_ = L at *
  clear h1 hc hA hI
  go_enter Try.func4, Try.ntmps4
  go_wp2_with fail
  refine (HW.out _).mono ?_
  rintro e w2 ⟨rfl, hB⟩
  go_wp2_with fail
  refine (K1.out _ (HX.out _ hB)).mono ?_
  rintro e w3 ⟨hb3, A3, c3, rfl, -, -, hD3⟩
  have hB3 := hB.trans (hb3.mono hB.size)
  have D3 := Lib.hid hD3
  have HR := Lib.hid hR
  clear hD3 hR
  go_wp2_with fail
  go_loopw [11, 12] (fun k i wr => ∃ j : Nat, j ≤ L.length ∧ i = .int .i64 j ∧ k = .int .i64 (times (op, n) (L.take j) : Nat) ∧ Below w3.heap.size w3 wr) (fun _ i _ => L.length - (intOf i).toNat)
  case atStart => exact ⟨0, by omega, rfl, by rw [times_0]; rfl, Below.refl _ _⟩
  case round =>
    obtain ⟨j, hj, rfl, rfl, hb4⟩ := hrel
    have hB4 := hB3.trans (hb4.mono hB3.size)
    by_cases hlt : j < L.length
    · obtain ⟨d, hd⟩ : ∃ d, L[j]? = some d := ⟨_, List.getElem?_eq_getElem hlt⟩
      obtain ⟨ad, P, cp, rfl, bl, ok, ce⟩ := DRow.get (DRow.at D3.out hb4) hd
      have hT := times_step hd (op := op) (n := n)
      have htl : times (op, n) (L.take j) ≤ 5 := by
        have := times_le (op, n) (L.take j)
        rw [List.length_take] at this
        omega
      rcases Nat.eq_zero_or_pos j with h0 | h0
      · obtain ⟨dop, dn⟩ := d
        simp only at ok ce hT
        unfold Cel at ce
        obtain ⟨a0, a1, a2⟩ := ce
        have i1 : (j : Int) < (L.length : Int) := by omega
        have i2 : (0 : Int) ≤ (j : Int) := by omega
        have i3 : ¬ (0 : Int) < (j : Int) := by omega
        have i4 : decide ((0 : Int) < (j : Int)) = false := by simpa using i3
        have i5 : ¬ 0 < j := by omega
        have i6 : decide (0 < j) = false := by simpa using i5
        generalize times (op, n) (L.take j) = tt at *
        clear h0
        clear hd ok
        go_wp2_with fail
        go_quiet (fail)
        cases c1 : (dop == op)
        · have HT := Lib.hid (hT.trans (if_neg (fun z => by rw [z.1] at c1; simp at c1)))
          clear hT
          go_wp2_with fail
          go_roundw
          case rel => exact ⟨j + 1, by omega, by go_num, by rw [HT.out], (belowN hb4 _)⟩
          case measure => simp [intOf]; omega
        · cases c2 : (dn == n)
          · have HT := Lib.hid (hT.trans (if_neg (fun z => by rw [z.2] at c2; simp at c2)))
            clear hT
            go_wp2_with fail
            go_roundw
            case rel => exact ⟨j + 1, by omega, by go_num, by rw [HT.out], (belowN hb4 _)⟩
            case measure => simp [intOf]; omega
          · have HT := Lib.hid (hT.trans (if_pos ⟨by simpa using c1, by simpa using c2⟩))
            have ht1 : IntKind.i64.wrap ((tt : Int) + 1) = (tt : Int) + 1 := IntWalk.i64_in _ (by omega)
            clear hT
            go_wp2_with fail
            go_roundw
            case rel => exact ⟨j + 1, by omega, by go_num, by rw [HT.out]; go_num, (belowN hb4 _)⟩
            case measure => simp [intOf]; omega
      · obtain ⟨q, rfl⟩ : ∃ q, j = q + 1 := ⟨j - 1, by omega⟩
        obtain ⟨d0, hd0⟩ : ∃ d, L[q]? = some d := ⟨_, List.getElem?_eq_getElem (by omega)⟩
        obtain ⟨ad', P0, cp0, e, bl', ok', ce'⟩ := DRow.get (DRow.at D3.out hb4) hd0
        cases e
        have hlt2 := dcmp_lt (row_next HR.out hd0 hd)
        obtain ⟨dop, dn⟩ := d
        obtain ⟨eop, en⟩ := d0
        simp only at ok ce hT ok' ce' hlt2
        have HCC := Lib.hid (fun W h h' => show Calls Try.prog 14 #[.agg #[.slice P0 0 cp0, .int .i64 eop, .int .i64 en], .agg #[.slice P 0 cp, .int .i64 dop, .int .i64 dn]] W (fun e w' => e = .returned (.int .i64 (dcmp [] eop en [] dop dn)) ∧ Below W.heap.size W w') from
          D.compare ⟨P0, cp0, [], eop, en⟩ ⟨P, cp, [], dop, dn⟩ W h h')
        generalize dcmp [] eop en [] dop dn = r at *
        have OK := Lib.hid ok
        have OK' := Lib.hid ok'
        have HS := Lib.hid (fun W (h : Below wr.heap.size wr W) => And.intro (ce.keep bl h) (ce'.keep bl' h))
        have hS := HS.out _ (Below.refl _ _)
        unfold Cel at hS
        have i1 : (q : Int) + 1 < (L.length : Int) := by omega
        have i2 : (0 : Int) ≤ (q : Int) + 1 := by omega
        have i3 : (0 : Int) < (q : Int) + 1 := by omega
        have i4 : (q : Int) < (L.length : Int) := by omega
        have i5 : IntKind.i64.wrap ((q : Int) + 1 - 1) = (q : Int) := by rw [show (q : Int) + 1 - 1 = q by omega]; exact IntWalk.i64_in _ (by omega)
        have i6 : (0 : Int) ≤ (q : Int) := by omega
        have i9 : IntKind.i64.wrap (q : Int) = (q : Int) := IntWalk.i64_in _ (by omega)
        have i7 : ((q : Int) + 1).toNat = q + 1 := by omega
        have i8 : ¬ (0 : Int) ≤ r := by omega
        generalize times (op, n) (L.take (q + 1)) = tt at *
        clear hd hd0 ok ok' ce ce' bl bl' hlt2
        go_wp2_with fail
        go_region_held3 (fun w' => (w'.cell? (ad.add ((q + 1) * 3)) = some (.slice P 0 cp) ∧ w'.cell? ⟨(ad.add ((q + 1) * 3)).block, (ad.add ((q + 1) * 3)).off + 1, none⟩ = some (.int .i64 dop) ∧ w'.cell? ⟨(ad.add ((q + 1) * 3)).block, (ad.add ((q + 1) * 3)).off + 2, none⟩ = some (.int .i64 dn)) ∧ (w'.cell? (ad.add (q * 3)) = some (.slice P0 0 cp0) ∧ w'.cell? ⟨(ad.add (q * 3)).block, (ad.add (q * 3)).off + 1, none⟩ = some (.int .i64 eop) ∧ w'.cell? ⟨(ad.add (q * 3)).block, (ad.add (q * 3)).off + 2, none⟩ = some (.int .i64 en))) (exact hS) (first
          | (go_at_call 14; refine (HCC.out _ OK'.out.drew OK.out.drew).mono ?_; rintro e w6 ⟨rfl, hb6⟩; have hb7 := hb4.drew.trans (hb6.mono hb4.size); have hS := HS.out _ ((Below.refl wr.heap.size wr).drew.trans hb6); unfold Cel at hS)
          | fail)
        cases c1 : (dop == op)
        · have HT := Lib.hid (hT.trans (if_neg (fun z => by rw [z.1] at c1; simp at c1)))
          clear hT
          go_wp2_with fail
          go_roundw
          case rel => exact ⟨(q + 1) + 1, by omega, by go_num, by rw [HT.out], hb7⟩
          case measure => simp [intOf]; omega
        · cases c2 : (dn == n)
          · have HT := Lib.hid (hT.trans (if_neg (fun z => by rw [z.2] at c2; simp at c2)))
            clear hT
            go_wp2_with fail
            go_roundw
            case rel => exact ⟨(q + 1) + 1, by omega, by go_num, by rw [HT.out], hb7⟩
            case measure => simp [intOf]; omega
          · have HT := Lib.hid (hT.trans (if_pos ⟨by simpa using c1, by simpa using c2⟩))
            have ht1 : IntKind.i64.wrap ((tt : Int) + 1) = (tt : Int) + 1 := IntWalk.i64_in _ (by omega)
            clear hT
            go_wp2_with fail
            go_roundw
            case rel => exact ⟨(q + 1) + 1, by omega, by go_num, by rw [HT.out]; go_num, hb7⟩
            case measure => simp [intOf]; omega
    · obtain rfl : j = L.length := by omega
      have i1 : ¬ (L.length : Int) < (L.length : Int) := by omega
      have i2 : (L.length : Int) ≤ 5 := by omega
      rw [List.take_length, times_row HR.out]
      by_cases hm : (op, n) ∈ L
      · rw [if_pos hm]
        rw [decide_eq_true hm] at K3
        clear hm
        go_wp2_with (first
          | (go_at_call 12; refine (K3.out _ (HX.out _ hB4)).mono ?_; rintro e w6 ⟨rfl, hb6⟩; have hB6 := hB4.trans (hb6.mono hB4.size))
          | fail)
        go_ret
        exact ⟨rfl, hB6⟩
      · rw [if_neg hm]
        rw [decide_eq_false hm] at K3
        clear hm
        go_wp2_with (first
          | (go_at_call 12; refine (K3.out _ (HX.out _ hB4)).mono ?_; rintro e w6 ⟨rfl, hb6⟩; have hB6 := hB4.trans (hb6.mono hB4.size))
          | fail)
        go_ret
        exact ⟨rfl, hB6⟩

end Go.Proofs.Ytlaidcahkafgoaa.Cat

set_option linter.unusedVariables false
namespace Go.Proofs.Ytlaidcahkafgoaa.Cat
open Go.RowKit Mem _root_.Go.Proofs.Ytlaidcahkafgoaa.Arena _root_.Go.Proofs.Ytlaidcahkafgoaa.Delta _root_.Go.Proofs.Ytlaidcahkafgoaa.Path
attribute [local go_sem ↓] Go.wp_at_zero Go.wp_at_succ

theorem part_nth {l : List Nd} {k m : Nat} (h : scan 1 (l.drop k) = some m) {i : Nat} (hi : i < m) : (apart l k)[i]? = l[k + i]? := by
  unfold apart
  rw [aend_some h, if_neg (by omega), Int.toNat_natCast, show ((k : Int) + (m : Int)).toNat - k = m by omega, List.getElem?_take_of_lt hi, List.getElem?_drop]
theorem part_neg {l : List Nd} {a : Int} (h : aend l a < 0) : apart l a = [] := if_pos h
theorem chs_part (l : List Nd) (a : Int) : chs (apart l a) 0 = chs l a := by
  rcases aend_cases l a with he | ⟨k, m, rfl, hs, -, hm, -⟩
  · rw [part_neg (by rw [he]; decide), ch0, show chs l a = [] from if_pos (by rw [he]; decide)]
  · have hp : scan 1 ((apart l k).drop 0) = some m := part_scan hs
    have h1 := chs_some (l := apart l k) (a := 0) hp
    rw [show ((0 : Nat) : Int) = 0 from rfl] at h1
    rw [h1, chs_some hs]
    have e0 := nodeAt_some (a := 0) hp
    rw [part_nth hs (by omega), Nat.add_zero, nodeAt_some hs, show ((0 : Nat) : Int) = 0 from rfl] at e0
    have e1 := Option.some.inj e0
    rw [← e1]
    refine choices_behind (bool_rng (arity_some hs).1) (fun h25 => ?_)
    have b1 := behind_some (a := 0) hp (by rw [show ((0 : Nat) : Int) = 0 from rfl, ← e1]; exact h25)
    have b2 := behind_some hs h25
    have hlt : 1 < m := by
      have := (List.getElem?_eq_some_iff.1 b1).1
      rw [part_len hs] at this
      omega
    rw [part_nth hs (by omega), Nat.zero_add, b2, show ((0 : Nat) : Int) = 0 from rfl] at b1
    exact (Option.some.inj b1).symm

set_option maxRecDepth 100000 in
set_option maxHeartbeats 4000000 in
theorem catalogPart_of (C : Pkg) (D : DPkg) (A : Option Addr) (c : Nat) (l : List Nd) (hc : l.length ≤ c) (hA : A = none → c = 0) (at_ : Int) (w : World) (hx : Nodes w w.heap.size A l) :
    Calls Try.prog 6 #[.slice A l.length c, .int .i64 at_] w fun e w' => e = .returned (.bool true) ∧ Below w.heap.size w w' := by
  have HW := Lib.hid (fun W => works_any C W)
  have HX := Lib.hid (fun W (h : Below w.heap.size w W) => Nodes.at hx h)
  clear hx
  by_cases h1 : 60 < l.length
  · have j1 : (60 : Int) < (l.length : Int) := by omega
    go_enter Try.func6, Try.ntmps6
    go_wp2_with (go_at_call 8; refine (HW.out _).mono ?_; rintro e w2 ⟨rfl, hb2⟩)
    go_ret
    exact ⟨rfl, hb2⟩
  have j1 : ¬ (60 : Int) < (l.length : Int) := by omega
  have hL := chs_len l at_
  have K1 := Lib.hid (fun W h => C.choices A c l at_ W h hc hA (by omega))
  have KP := Lib.hid (fun W h => Part_any A c l at_ W h hA hc (by omega))
  have hpl : (apart l at_).length ≤ 60 := by
    rcases aend_cases l at_ with he | ⟨k, m, rfl, hs, -, -, h3⟩
    · rw [part_neg (by rw [he]; decide)]; decide
    · rw [part_len hs]; omega
  have K2 := Lib.hid (fun A' c' W h hc' hA' => C.choices A' c' (apart l at_) 0 W h hc' hA' (by omega))
  unfold NodesEnds at KP
  unfold ChEnds at K1 K2
  rw [chs_part] at K2
  generalize chs l at_ = L at *
  generalize apart l at_ = P at *
  clear h1 hc hA
  go_enter Try.func6, Try.ntmps6
  go_wp2_with fail
  refine (HW.out _).mono ?_
  rintro e w2 ⟨rfl, hB⟩
  go_wp2_with fail
  refine (K1.out _ (HX.out _ hB)).mono ?_
  rintro e w3 ⟨hb3, A3, c3, rfl, -, -, hD3⟩
  have hB3 := hB.trans (hb3.mono hB.size)
  have D3 := Lib.hid hD3
  clear hD3
  go_wp2_with fail
  refine (KP.out _ (HX.out _ hB3)).mono ?_
  rintro e wp ⟨hbp, AP, cP, rfl, hcP, hAP, hNP⟩
  have hBp := hB3.trans (hbp.mono hB3.size)
  go_wp2_with fail
  refine (K2.out _ _ _ hNP hcP hAP).mono ?_
  rintro e w4 ⟨hb4, A4, c4, rfl, -, -, hD4⟩
  have hB4 := hBp.trans (hb4.mono hBp.size)
  have D4 := Lib.hid hD4
  have D34 := Lib.hid (DRow.at (DRow.at D3.out hbp) hb4)
  clear hD4
  go_wp2_with fail
  go_loopw [8] (fun i wr => ∃ j : Nat, j ≤ L.length ∧ i = .int .i64 j ∧ Below w4.heap.size w4 wr) (fun i _ => L.length - (intOf i).toNat)
  case atStart => exact ⟨0, by omega, rfl, Below.refl _ _⟩
  case round =>
    obtain ⟨j, hj, rfl, hb5⟩ := hrel
    have hB5 := hB4.trans (hb5.mono hB4.size)
    by_cases hlt : j < L.length
    · have i1 : (j : Int) < (L.length : Int) := by omega
      have i2 : (0 : Int) ≤ (j : Int) := by omega
      obtain ⟨d, hd⟩ : ∃ d, L[j]? = some d := ⟨_, List.getElem?_eq_getElem hlt⟩
      obtain ⟨ad, P1, cp, rfl, bl, ok, ce⟩ := DRow.get (DRow.at D34.out hb5) hd
      obtain ⟨ad', P2, cp', rfl, bl', ok', ce'⟩ := DRow.get (DRow.at D4.out hb5) hd
      obtain ⟨dop, dn⟩ := d
      simp only at ok ok' ce ce'
      have HCC := Lib.hid (fun W h h' => show Calls Try.prog 19 #[.agg #[.slice P1 0 cp, .int .i64 dop, .int .i64 dn], .agg #[.slice P2 0 cp', .int .i64 dop, .int .i64 dn]] W (fun e w' => e = .returned (.bool true) ∧ Below W.heap.size W w') from by
        have q := D.same ⟨P1, cp, [], dop, dn⟩ ⟨P2, cp', [], dop, dn⟩ W h h'
        simp only [dcmp_self] at q
        exact q)
      have OK := Lib.hid ok
      have OK' := Lib.hid ok'
      have HS := Lib.hid (fun W (h : Below wr.heap.size wr W) => And.intro (ce.keep bl h) (ce'.keep bl' h))
      have hS := HS.out _ (Below.refl _ _)
      unfold Cel at hS
      clear hd ok ok' ce ce' bl bl'
      go_wp2_with fail
      go_region_held3 (fun w' => (w'.cell? (ad.add (j * 3)) = some (.slice P1 0 cp) ∧ w'.cell? ⟨(ad.add (j * 3)).block, (ad.add (j * 3)).off + 1, none⟩ = some (.int .i64 dop) ∧ w'.cell? ⟨(ad.add (j * 3)).block, (ad.add (j * 3)).off + 2, none⟩ = some (.int .i64 dn)) ∧ (w'.cell? (ad'.add (j * 3)) = some (.slice P2 0 cp') ∧ w'.cell? ⟨(ad'.add (j * 3)).block, (ad'.add (j * 3)).off + 1, none⟩ = some (.int .i64 dop) ∧ w'.cell? ⟨(ad'.add (j * 3)).block, (ad'.add (j * 3)).off + 2, none⟩ = some (.int .i64 dn))) (exact hS) (first
        | (go_at_call 19; refine (HCC.out _ OK.out.drew OK'.out.drew).mono ?_; rintro e w6 ⟨rfl, hb6⟩; have hb7 := hb5.drew.trans (hb6.mono hb5.size); have hS := HS.out _ ((Below.refl wr.heap.size wr).drew.trans hb6); unfold Cel at hS)
        | fail)
      go_wp2_with fail
      go_roundw
      case rel => exact ⟨j + 1, by omega, by go_num, hb7⟩
      case measure => simp [intOf]; omega
    · have i1 : ¬ (j : Int) < (L.length : Int) := by omega
      go_wp2_with fail
      go_ret
      exact ⟨rfl, hB5⟩

end Go.Proofs.Ytlaidcahkafgoaa.Cat

set_option linter.unusedVariables false
namespace Go.Proofs.Ytlaidcahkafgoaa.Cat
open Go.RowKit Mem _root_.Go.Proofs.Ytlaidcahkafgoaa.Arena _root_.Go.Proofs.Ytlaidcahkafgoaa.Delta _root_.Go.Proofs.Ytlaidcahkafgoaa.Path

theorem chs_cis {l : List Nd} {k m : Nat} (hs : scan 1 (l.drop k) = some m) {op n : Int} (h : (op, n) ∈ chs l k) : cis (nodeAt l k) (behind l k) op n = true := by
  have h1 := (chs_facts l k).2.2 op n
  rw [decide_eq_true h, isv_some hs] at h1
  exact h1
theorem part_first {l : List Nd} {k m : Nat} (hs : scan 1 (l.drop k) = some m) : (apart l k)[0]? = some (nodeAt l k) := by
  have hp := T.pos hs
  rw [part_nth hs (by omega), Nat.add_zero]
  exact nodeAt_some hs
theorem part_second {l : List Nd} {k m : Nat} (hs : scan 1 (l.drop k) = some m) (h25 : (nodeAt l k).1 = 25) : (apart l k)[1]? = some (behind l k) := by
  have hp : scan 1 ((apart l k).drop 0) = some m := part_scan hs
  have e0 := nodeAt_some (a := 0) hp
  rw [part_first hs] at e0
  have e1 := Option.some.inj e0
  have b1 := behind_some (a := 0) hp (by rw [← e1]; exact h25)
  have hlt : 1 < m := by
    have := (List.getElem?_eq_some_iff.1 b1).1
    rw [part_len hs] at this
    omega
  rw [part_nth hs hlt]
  exact behind_some hs h25
/-- What comes of it. -/
theorem chs_apply {l : List Nd} {k m : Nat} (hs : scan 1 (l.drop k) = some m) {op n : Int} (h : (op, n) ∈ chs l k) :
    aerr (apart l k) [] op n = 0 ∧ anew (apart l k) [] op n = dch (apart l k) 0 op n ∧ dch (apart l k) 0 op n ≠ apart l k ∧ scan 1 (dch (apart l k) 0 op n) = some (dch (apart l k) 0 op n).length := by
  have hc := chs_cis hs h
  have hw : aend (apart l k) 0 = (apart l k).length := by
    have hp : scan 1 ((apart l k).drop 0) = some m := part_scan hs
    have := aend_some (a := 0) hp
    rw [show ((0 : Nat) : Int) = 0 from rfl] at this
    rw [this, part_len hs]; omega
  have hf : pfind (apart l k) [] = ((0 : Nat) : Int) := by
    unfold pfind
    rw [if_pos hw]
    rfl
  have h0 := part_first hs
  have hm := cis_may (bool_rng (arity_some hs).1) hc
  refine ⟨?_, ?_, ?_⟩
  · rw [aerr_at hf h0, if_pos hm]
  · unfold anew
    rw [hf]
    rfl
  · exact cis_new (by rw [part_scan hs, part_len hs]) h0 (part_second hs) hc

end Go.Proofs.Ytlaidcahkafgoaa.Cat

set_option linter.unusedVariables false
namespace Go.Proofs.Ytlaidcahkafgoaa.Cat
open Go.RowKit Mem _root_.Go.Proofs.Ytlaidcahkafgoaa.Arena _root_.Go.Proofs.Ytlaidcahkafgoaa.Delta _root_.Go.Proofs.Ytlaidcahkafgoaa.Path

theorem ne_blk {b i : Nat} {X : Addr} (h : X.block ≠ b) : (⟨b, i, none⟩ : Addr) ≠ X := fun e => h (by rw [← e])
theorem prg_of {w : World} {A : Option Addr} {c : Nat} {P : List Nd} (hN : Nodes w w.heap.size A P) (hc : P.length ≤ c) (hA : A = none → c = 0) (hl : P.length ≤ 60) : Kinds.Prg.Ok ⟨0, none, 0, [], A, c, P⟩ w :=
  ⟨fun i x h => by simp at h, hN, by simp, by simp only; omega, by simp, hc, fun _ => rfl, hA⟩

theorem add_zero' (a : Addr) : a.add 0 = a := by unfold Addr.add; split <;> simp_all
/-- A box of a slice of numbers and one of nodes: the nodes lie elsewhere. -/
theorem far_nodes {w : World} {B : Nat} {R : Option Addr} {l : List Nd} {g : Nat} {T : TypeId} {u : Int} {a1 a2 : Option Addr} {n1 c1 n2 c2 : Nat} (h : Nodes w B R l) (hz : Blk w g T #[.int .i64 u, .slice a1 n1 c1, .slice a2 n2 c2]) (i : Nat) (v : Value) :
    Nodes (w.setCell ⟨g, i, none⟩ v) B R l := by
  intro j x hx
  obtain ⟨ad, e, hlt, q0, q1⟩ := h j x hx
  have hb := add_blockN ad (j * 2)
  have hne : ad.block ≠ g := by
    intro hg
    rw [hb, hg, hz.cell] at q1
    match ho : (ad.add (j * 2)).off, q1 with
    | 0, q1 => simp at q1
    | 1, q1 => simp at q1
    | o + 2, q1 => simp at q1
  refine ⟨ad, e, hlt, (World.cell?_of_block ?_).trans q0, (World.cell?_of_block ?_).trans q1⟩
  · rw [hb]; exact Below.heap_setCell _ _ _ _ hne
  · show (w.setCell ⟨g, i, none⟩ v).heap[(ad.add (j * 2)).block]? = w.heap[(ad.add (j * 2)).block]?
    rw [hb]; exact Below.heap_setCell _ _ _ _ hne
/-- Where the changed program lies: in the box g. -/
def Fin (w4 w7 : World) (g : Nat) (A : Option Addr) (c : Nat) (B : Option Addr) (ce : Nat) (R : List Nd) : Prop :=
  Below w4.heap.size w4 w7 ∧ Blk w7 g 34 #[.int .i64 0, .slice A 0 c, .slice B R.length ce] ∧ Nodes w7 w7.heap.size B R ∧ R.length ≤ ce ∧ (B = none → ce = 0)
theorem fin_new {w4 w6 : World} {A : Option Addr} {c : Nat} {B : Option Addr} {ce : Nat} {R : List Nd} (h : Below w4.heap.size w4 w6) (ok : Kinds.Prg.Ok ⟨0, A, c, [], B, ce, R⟩ w6) :
    Fin w4 (w6.alloc (.cells #[.int .i64 0, .slice A 0 c, .slice B R.length ce] 34)) w6.heap.size A c B ce R :=
  ⟨h.alloc h.size _, Blk.new _ _ _, ok.body.at ((Below.refl _ _).alloc (Nat.le_refl _) _), ok.ce, ok.nb⟩
theorem fin_set {w4 w6 : World} {g : Nat} {A : Option Addr} {c : Nat} {B : Option Addr} {ce : Nat} {R : List Nd} (h : Below w4.heap.size w4 w6) (ok : Kinds.Prg.Ok ⟨0, A, c, [], B, ce, R⟩ w6) (bX : Blk w6 g 34 #[.int .i64 0, .slice none 0 0, .slice none 0 0]) (hg : w4.heap.size ≤ g) :
    Fin w4 (((w6.setCell ⟨g, 0, none⟩ (.int .i64 0)).setCell ⟨g, 1, none⟩ (.slice A 0 c)).setCell ⟨g, 2, none⟩ (.slice B R.length ce)) g A c B ce R := by
  have b1 := bX.set 0 (.int .i64 0)
  have b2 := b1.set 1 (.slice A 0 c)
  have b3 := b2.set 2 (.slice B R.length ce)
  have n1 := far_nodes ok.body bX 0 (.int .i64 0)
  have n2 := far_nodes n1 b1 1 (.slice A 0 c)
  have n3 := far_nodes n2 b2 2 (.slice B R.length ce)
  have hs : (((w6.setCell ⟨g, 0, none⟩ (.int .i64 0)).setCell ⟨g, 1, none⟩ (.slice A 0 c)).setCell ⟨g, 2, none⟩ (.slice B R.length ce)).heap.size = w6.heap.size := by simp [World.setCell]
  refine ⟨((h.setCell (p := ⟨g, 0, none⟩) hg _).setCell (p := ⟨g, 1, none⟩) hg _).setCell (p := ⟨g, 2, none⟩) hg _, b3, ?_, ok.ce, ok.nb⟩
  rw [hs]
  exact n3

end Go.Proofs.Ytlaidcahkafgoaa.Cat

namespace Go.Proofs.Ytlaidcahkafgoaa.Cat
open Go.RowKit Mem Go.ChangeShapes Go.WideShapes Go.Deep Go.Joins

section
variable {H : Type} {enc : TypeId × Value → H} {W : World} {spare : Nat → Bool} {held : Bool}

set_option maxRecDepth 100000 in
theorem nodes_sized {v : Value} {d : DataW H} {p : List MemPlace} (h : DataW.Trod enc Try.prog W 0 spare held 22 v d p) (hw : ∀ m ∈ d.weights Try.prog 22, m ≤ reachBytes) {A : Option Addr} {len cap : Nat} (e : v = .slice A len cap) : len ≤ 10000000000000 := by
  subst e
  obtain ⟨fuel, hf⟩ := h
  have hB : Try.prog.bytesOf 43 = 16 := by kernel_rfl
  rcases open_slice Try.underlying22 hf with ⟨hcs, -⟩ | ⟨a, len', cap', m, n, D, Pl, hcs, -, hlc, hcm, hm, hx, hi⟩
  · simp [Value.cells] at hcs
    omega
  · simp [Value.cells] at hcs
    obtain ⟨rfl, rfl, rfl⟩ := hcs
    simp only [Prod.mk.injEq] at hx
    have := hw ((((List.range len).map D).length + ((List.range (m - len)).map fun j => D (len + j)).length) * Try.prog.bytesOf 43) (by
      rw [hx.1]
      simp only [DataW.weights, Try.underlying22]
      exact List.mem_cons_self ..)
    rw [hB, List.length_map, List.length_range] at this
    have hr : reachBytes = 140737488351232 := rfl
    rw [hr] at this
    omega

end
end Go.Proofs.Ytlaidcahkafgoaa.Cat
