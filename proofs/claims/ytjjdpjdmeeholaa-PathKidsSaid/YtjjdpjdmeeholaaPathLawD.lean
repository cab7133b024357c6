/-
  The laws of layer 11, walked on what the package's functions come to: nodes stand in the order of their paths; a kid's path.
-/
import Derived.Test.YtjjdpjdmeeholaaPathLawB
namespace Go.Proofs.Ytjjdpjdmeeholaa.Path
open Go.RowKit Mem _root_.Go.Proofs.Ytjjdpjdmeeholaa.Arena
set_option linter.unusedVariables false
attribute [local go_sem ↓] Go.wp_at_zero Go.wp_at_succ

theorem prefix_iff (p q : List Int) : (∃ r, q = p ++ r) ↔ (p.length ≤ q.length ∧ p = q.take p.length) := by
  constructor
  · rintro ⟨r, rfl⟩; simp
  · rintro ⟨h1, h2⟩
    exact ⟨q.drop p.length, by conv => lhs; rw [← List.take_append_drop p.length q, ← h2]⟩
theorem take_more {p q : List Int} {n : Nat} {x y : Int} (hx : p[n]? = some x) (hy : q[n]? = some y) (h : p.take n = q.take n) : p.take (n + 1) = q.take (n + 1) ↔ x = y := by
  rw [List.take_add_one, List.take_add_one, hx, hy, h]
  simp

set_option maxRecDepth 100000 in
set_option maxHeartbeats 4000000 in
theorem pathOrder_of (C : Pkg) (A : Option Addr) (c : Nat) (l : List Nd) (ll : l.length ≤ maxLen) (ml : l.length ≤ c) (nl : A = none → c = 0) (i : Int) (wi : (Lit.int .i64 i).wf = true) (k : Int) (wk : (Lit.int .i64 k).wf = true)
    (w : World) (hx : Nodes w w.heap.size A l) :
    Calls Try.prog 5 #[.slice A l.length c, .int .i64 i, .int .i64 k] w fun e w' => e = .returned (.bool true) ∧ Below w.heap.size w w' := by
  have HW := Lib.hid (fun W => Path.works_any C W)
  have HX := Lib.hid (fun W (h : Below w.heap.size w W) => Nodes.at hx h)
  clear hx
  by_cases h1 : 60 < l.length
  · have j1 : (60 : Int) < (l.length : Int) := by omega
    go_enter Try.func5, Try.ntmps5
    go_wp2_with (go_at_call 8; refine (HW.out _).mono ?_; rintro e w2 ⟨rfl, hb2⟩)
    go_ret
    exact ⟨rfl, hb2⟩
  have j1 : ¬ (60 : Int) < (l.length : Int) := by omega
  obtain ⟨p, ok, p1, p2, hpl, p3⟩ := path_is l i
  obtain ⟨q, ok2, q1, q2, hql, q3⟩ := path_is l k
  have K1 := Lib.hid (fun W h => (C.of A c l i W h (by omega)).mono (fun e w' h => p3 W e w' h))
  have K2 := Lib.hid (fun W h => (C.of A c l k W h (by omega)).mono (fun e w' h => q3 W e w' h))
  have two : ∀ (Q : World → Prop), (∀ W, Below w.heap.size w W → Q W) → ∀ W, Below w.heap.size w W → Q W := fun Q h => h
  cases ok with
  | false =>
    clear p1 p2 p3 q1 q2 q3 h1
    cases ok2
    all_goals
      go_enter Try.func5, Try.ntmps5
      go_wp2_with (go_at_call 8; refine (HW.out _).mono ?_; rintro e w2 ⟨rfl, hB⟩)
      refine (K1.out _ (HX.out _ hB)).mono ?_
      rintro e w4 ⟨hb, A1, c1, rfl, r1, -⟩
      have hB := hB.trans (hb.mono hB.size)
      go_wp2_with fail
      refine (K2.out _ (HX.out _ hB)).mono ?_
      rintro e w5 ⟨hb, A2, c2, rfl, r2, -⟩
      have hB := hB.trans (hb.mono hB.size)
      go_wp2_with fail
      go_ret
      exact ⟨rfl, hB⟩
  | true =>
  cases ok2 with
  | false =>
    clear p1 p2 p3 q1 q2 q3 h1
    go_enter Try.func5, Try.ntmps5
    go_wp2_with (go_at_call 8; refine (HW.out _).mono ?_; rintro e w2 ⟨rfl, hB⟩)
    refine (K1.out _ (HX.out _ hB)).mono ?_
    rintro e w4 ⟨hb, A1, c1, rfl, r1, -⟩
    have hB := hB.trans (hb.mono hB.size)
    go_wp2_with fail
    refine (K2.out _ (HX.out _ hB)).mono ?_
    rintro e w5 ⟨hb, A2, c2, rfl, r2, -⟩
    have hB := hB.trans (hb.mono hB.size)
    go_wp2_with fail
    go_ret
    exact ⟨rfl, hB⟩
  | true =>
    have lp := p1 rfl
    have lq := q1 rfl
    obtain ⟨a, rfl⟩ := Int.eq_ofNat_of_zero_le lp.2.1
    obtain ⟨b, rfl⟩ := Int.eq_ofNat_of_zero_le lq.2.1
    have hw := lp.1
    have ra := lp.rng.1
    obtain ⟨m, hm⟩ := hw.at (b := a) (by omega)
    have hcmp := down_cmp l p q 0 l.length a b hw.t lp.2.2 lq.2.2
    have hbel := down_below hw.t lp.2.2 lq.2.2 hm
    rw [prefix_iff] at hbel
    have hend := hm.end
    have hmp := hm.pos
    have KE := Lib.hid (fun W h => Arena.End_any A c l (a : Int) W h (by omega))
    rw [hend] at KE
    obtain ⟨E, hE⟩ : ∃ E : Int, ((a + m : Nat) : Int) = E := ⟨_, rfl⟩
    rw [hE] at KE
    have HE := Lib.hid hE
    have KC := Lib.hid (fun A1 c1 A2 c2 W h h' m1 m2 n1 n2 => C.compare A1 c1 p A2 c2 q W h h' (by omega) (by omega) m1 m2 n1 n2)
    have hbr : (b < a ∧ cmp p q = 1) ∨ (b = a ∧ cmp p q = 0) ∨ (a < b ∧ b < a + m ∧ cmp p q = -1) ∨ (a < b ∧ ¬ b < a + m ∧ cmp p q = -1) := by
      rw [hcmp]
      by_cases h1 : a < b
      · rw [if_pos h1]
        by_cases h2 : b < a + m
        · exact .inr (.inr (.inl ⟨h1, h2, rfl⟩))
        · exact .inr (.inr (.inr ⟨h1, h2, rfl⟩))
      · rw [if_neg h1]
        by_cases h2 : b < a
        · rw [if_pos h2]; exact .inl ⟨h2, rfl⟩
        · rw [if_neg h2]; exact .inr (.inl ⟨by omega, rfl⟩)
    obtain ⟨F, hF, hFF⟩ : ∃ F : Bool, (F = true ↔ (p.length ≤ q.length ∧ p = q.take p.length)) ∧ (F = true ↔ (a ≤ b ∧ b < a + m)) := ⟨decide (a ≤ b ∧ b < a + m), by rw [decide_eq_true_eq]; exact hbel.symm, by rw [decide_eq_true_eq]⟩
    have HF := Lib.hid hF
    clear p1 p2 p3 q1 q2 q3 h1 lp lq hw hcmp hbel hend hm two hF ra hE
    obtain ⟨r, hr⟩ : ∃ r, cmp p q = r := ⟨_, rfl⟩
    rw [hr] at KC hbr
    clear hr
    go_enter Try.func5, Try.ntmps5
    go_wp2_with (go_at_call 8; refine (HW.out _).mono ?_; rintro e w2 ⟨rfl, hB⟩)
    refine (K1.out _ (HX.out _ hB)).mono ?_
    rintro e w4 ⟨hb, A1, c1, rfl, r1, m1⟩
    have hB := hB.trans (hb.mono hB.size)
    go_wp2_with fail
    refine (K2.out _ (HX.out _ hB)).mono ?_
    rintro e w5 ⟨hb, A2, c2, rfl, r2, m2⟩
    have hB := hB.trans (hb.mono hB.size)
    have r1 := r1.at hb
    obtain ⟨m1, n1⟩ := m1 (by first | rfl | trivial)
    obtain ⟨m2, n2⟩ := m2 (by first | rfl | trivial)
    go_wp2_with fail
    refine (KC.out _ _ _ _ _ r1 r2 m1 m2 n1 n2).mono ?_
    rintro e w6 ⟨rfl, hb⟩
    have hB := hB.trans (hb.mono hB.size)
    have HR1 := Lib.hid (r1.at hb)
    have HR2 := Lib.hid (r2.at hb)
    have HB6 := Lib.hid hB
    clear r1 r2 hb m1 n1 m2 n2 hB
    go_wp2_with fail
    go_loopw [13, 14] (fun s x wr => ∃ (n : Nat) (f : Bool), n ≤ p.length ∧ x = .int .i64 n ∧ s = .bool f ∧ (f = true ↔ (p.length ≤ q.length ∧ p.take n = q.take n)) ∧ Below w6.heap.size w6 wr) (fun _ x _ => p.length - (intOf x).toNat)
    case atStart => exact ⟨0, _, by omega, rfl, rfl, by simp, Below.refl _ _⟩
    case round =>
      obtain ⟨n, f, hn, rfl, rfl, hf, hb⟩ := hrel
      by_cases hgo : n < p.length ∧ f = true
      · obtain ⟨h1, rfl⟩ := hgo
        obtain ⟨h2, h3⟩ := hf.1 rfl
        obtain ⟨x, hxn⟩ : ∃ x, p[n]? = some x := ⟨_, List.getElem?_eq_getElem h1⟩
        obtain ⟨y, hyn⟩ : ∃ y, q[n]? = some y := ⟨_, List.getElem?_eq_getElem (by omega)⟩
        obtain ⟨ad, rfl, -, g0⟩ := (HR1.out.at hb) n x hxn
        obtain ⟨ad2, rfl, -, g1⟩ := (HR2.out.at hb) n y hyn
        have hmo := take_more hxn hyn h3
        have HM := Lib.hid (show ((x == y) = true ↔ (p.length ≤ q.length ∧ p.take (n + 1) = q.take (n + 1))) from by
          rw [hmo, beq_iff_eq]; exact ⟨fun e => ⟨h2, e⟩, fun e => e.2⟩)
        have i1 : (n : Int) < (p.length : Int) := by omega
        have i2 : (n : Int) < (q.length : Int) := by omega
        have i3 : (0 : Int) ≤ (n : Int) := by omega
        clear hf hxn hyn hmo h3
        go_wp2
        go_quiet (fail)
        go_wp2
        go_roundw
        case rel => exact ⟨n + 1, _, by omega, by go_num, rfl, HM.out, belowN hb _⟩
        case measure => simp [intOf]; omega
      · have hfF : f = F := by
          have hF := HF.out
          cases f with
          | true =>
            have : n = p.length := by
              by_cases z : n < p.length
              · exact absurd ⟨z, rfl⟩ hgo
              · omega
            subst this
            obtain ⟨z1, z2⟩ := hf.1 rfl
            rw [List.take_length] at z2
            exact (hF.2 ⟨z1, z2⟩).symm
          | false =>
            cases hFv : F with
            | false => rfl
            | true =>
              obtain ⟨z1, z2⟩ := hF.1 hFv
              have : p.take n = q.take n := by
                conv => lhs; rw [z2]
                rw [List.take_take, Nat.min_eq_left (by omega)]
              exact hf.2 ⟨z1, this⟩
        subst hfF
        have hstop : ¬ (n : Int) < (p.length : Int) ∨ f = false := by
          cases f with
          | false => exact .inr rfl
          | true => exact .inl (fun z => hgo ⟨by omega, rfl⟩)
        have hB := HB6.out.trans (hb.mono HB6.out.size)
        clear hf hgo hb
        have HFF := Lib.hid hFF
        have HST := Lib.hid hstop
        have HMP := Lib.hid hmp
        clear hFF hstop hmp
        rcases hbr with ⟨g1, rfl⟩ | ⟨rfl, rfl⟩ | ⟨g1, g2, rfl⟩ | ⟨g1, g2, rfl⟩
        · obtain rfl : f = false := by
            cases f with
            | false => rfl
            | true => have := HFF.out.1 rfl; omega
          have t1 : ¬ (a : Int) ≤ (b : Int) := by omega
          have t2 : ¬ (a : Int) < (b : Int) := by omega
          have t3 : ((a : Int) == (b : Int)) = false := by rw [beq_eq_false_iff_ne]; omega
          by_cases z : (n : Int) < (p.length : Int)
          all_goals
            go_wp2
            go_ret
            exact ⟨ret_true (by simp), hB⟩
        · obtain rfl : f = true := HFF.out.2 (by have := HMP.out; omega)
          have z : ¬ (n : Int) < (p.length : Int) := by rcases HST.out with z | z; exact z; cases z
          have t1 : (b : Int) < E := by have := HE.out; have := HMP.out; omega
          go_wp2_with (go_at_call 14; refine (KE.out _ (HX.out _ hB)).mono ?_; rintro e w8 ⟨rfl, hb⟩; have hB := hB.trans (hb.mono hB.size))
          go_ret
          exact ⟨ret_true (by simp), hB⟩
        · obtain rfl : f = true := HFF.out.2 (by have := HMP.out; omega)
          have z : ¬ (n : Int) < (p.length : Int) := by rcases HST.out with z | z; exact z; cases z
          have t1 : (b : Int) < E := by have := HE.out; have := HMP.out; omega
          have t2 : (a : Int) ≤ (b : Int) := by omega
          have t3 : ((a : Int) == (b : Int)) = false := by rw [beq_eq_false_iff_ne]; omega
          have t4 : (a : Int) < (b : Int) := by omega
          go_wp2_with (go_at_call 14; refine (KE.out _ (HX.out _ hB)).mono ?_; rintro e w8 ⟨rfl, hb⟩; have hB := hB.trans (hb.mono hB.size))
          go_ret
          exact ⟨ret_true (by simp), hB⟩
        · obtain rfl : f = false := by
            cases f with
            | false => rfl
            | true => have := HFF.out.1 rfl; omega
          have t1 : ¬ (b : Int) < E := by have := HE.out; have := HMP.out; omega
          have t2 : (a : Int) ≤ (b : Int) := by omega
          have t3 : ((a : Int) == (b : Int)) = false := by rw [beq_eq_false_iff_ne]; omega
          have t4 : (a : Int) < (b : Int) := by omega
          by_cases z : (n : Int) < (p.length : Int)
          all_goals
            go_wp2_with (go_at_call 14; refine (KE.out _ (HX.out _ hB)).mono ?_; rintro e w8 ⟨rfl, hb⟩; have hB := hB.trans (hb.mono hB.size))
            go_ret
            exact ⟨ret_true (by first | (simp; done) | (simp; omega)), hB⟩

end Go.Proofs.Ytjjdpjdmeeholaa.Path
