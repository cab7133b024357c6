/-
  Programs in memory; the reference of kinds, walked: its small functions.
-/
import Derived.Test.YteknfglfbkknaaaKindsMath
import Derived.Test.YteknfglfbkknaaaArenaRCheck
import Derived.Deep.QuietTactic
namespace Go.Proofs.Yteknfglfbkknaaa.Kinds
open Go.RowKit Mem _root_.Go.Proofs.Yteknfglfbkknaaa.Arena
set_option linter.unusedVariables false
attribute [local go_sem ↓] Go.wp_at_zero Go.wp_at_succ

/-- A program: how many parameters, its variables' types, its body, and where these lie. -/
structure Prg where
  ps : Int
  A : Option Addr
  c : Nat
  vs : List Int
  B : Option Addr
  e : Nat
  xs : List Nd
/-- It lies in memory, and is not large. -/
structure Prg.Ok (p : Prg) (w : World) : Prop where
  vars : IRow w w.heap.size p.A p.vs
  body : Nodes w w.heap.size p.B p.xs
  lv : p.vs.length ≤ 1000000
  lx : p.xs.length ≤ 1000000
  cv : p.vs.length ≤ p.c
  ce : p.xs.length ≤ p.e
  nv : p.A = none → p.c = 0
  nb : p.B = none → p.e = 0
theorem Prg.Ok.at {p : Prg} {w w' : World} (h : p.Ok w) (hb : Below w.heap.size w w') : p.Ok w' := ⟨h.vars.at hb, h.body.at hb, h.lv, h.lx, h.cv, h.ce, h.nv, h.nb⟩
theorem Prg.Ok.drew {p : Prg} {w : World} (h : p.Ok w) : p.Ok w.drew := ⟨h.vars, h.body, h.lv, h.lx, h.cv, h.ce, h.nv, h.nb⟩

set_option maxRecDepth 100000 in
theorem ref_Size_any (t : Int) (w : World) : Calls Try.prog 17 #[.int .i64 t] w fun e w' => e = .returned (.int .i64 (asz t)) ∧ w' = w := by
  by_cases h1 : t < 2
  · have hE := Lib.hid (show asz t = 0 by unfold asz; rw [if_pos (.inl h1)])
    go_enter Try.func17, Try.ntmps17
    go_wp2
    go_ret
    exact ⟨by rw [hE.out]; rfl, rfl⟩
  by_cases h2 : 9 < t
  · have hE := Lib.hid (show asz t = 0 by unfold asz; rw [if_pos (.inr h2)])
    go_enter Try.func17, Try.ntmps17
    go_wp2
    go_ret
    exact ⟨by rw [hE.out]; rfl, rfl⟩
  have hE := Lib.hid (show asz t = t - 1 by unfold asz; rw [if_neg (by omega)])
  have v1 : IntKind.i64.wrap (t - 1) = t - 1 := IntWalk.i64_in _ (by omega)
  go_enter Try.func17, Try.ntmps17
  go_wp2
  go_ret
  exact ⟨by rw [hE.out]; rfl, rfl⟩

set_option maxRecDepth 100000 in
theorem ref_kind_any (b : Bool) (k : Int) (w : World) : Calls Try.prog 43 #[.bool b, .int .i64 k] w fun e w' => e = .returned (.int .i64 (ifso (b = true) k)) ∧ w' = w := by
  cases b
  · go_enter Try.func43, Try.ntmps43
    go_wp2
    go_ret
    exact ⟨rfl, rfl⟩
  · go_enter Try.func43, Try.ntmps43
    go_wp2
    go_ret
    exact ⟨rfl, rfl⟩

set_option maxRecDepth 100000 in
theorem ref_typed_any (p : Prg) (v : Int) (w : World) (hp : p.Ok w) : Calls Try.prog 42 #[.agg #[.int .i64 p.ps, .slice p.A p.vs.length p.c, .slice p.B p.xs.length p.e], .int .i64 v] w fun e w' => e = .returned (.int .i64 (vtyp p.vs v)) ∧ Below w.heap.size w w' := by
  have hB0 : Below w.heap.size w (w.alloc (.cells #[.int .i64 p.ps, .slice p.A p.vs.length p.c, .slice p.B p.xs.length p.e] 25)) := (Below.refl _ _).alloc (Nat.le_refl _) _
  have HX := Lib.hid (hp.at hB0).vars
  have hlv := hp.lv
  clear hp
  by_cases h1 : v < 0
  · have hE := Lib.hid (show vtyp p.vs v = -1 by unfold vtyp; rw [if_pos h1])
    go_enter Try.func42, Try.ntmps42
    go_wp2
    go_ret
    exact ⟨by rw [hE.out]; rfl, hB0⟩
  obtain ⟨k, rfl⟩ := Int.eq_ofNat_of_zero_le (show 0 ≤ v by omega)
  by_cases h2 : p.vs.length ≤ k
  · have hE := Lib.hid (show vtyp p.vs k = -1 by unfold vtyp; rw [if_neg h1, Int.toNat_natCast, List.getD_eq_getElem?_getD, List.getElem?_eq_none h2]; rfl)
    have i1 : (p.vs.length : Int) ≤ (k : Int) := by omega
    go_enter Try.func42, Try.ntmps42
    go_wp2
    go_ret
    exact ⟨by rw [hE.out]; rfl, hB0⟩
  obtain ⟨x, hx⟩ : ∃ x, p.vs[k]? = some x := ⟨_, List.getElem?_eq_getElem (by omega)⟩
  have hE := Lib.hid (show vtyp p.vs k = x by unfold vtyp; rw [if_neg h1, Int.toNat_natCast, List.getD_eq_getElem?_getD, hx]; rfl)
  obtain ⟨ad, hA, hb, g0⟩ := HX.out k x hx
  have i1 : (k : Int) < (p.vs.length : Int) := by omega
  have i2 : (0 : Int) ≤ (k : Int) := by omega
  clear hx
  obtain ⟨ps, A, c, vs, B, e, xs⟩ := p
  simp only at hA
  subst hA
  go_enter Try.func42, Try.ntmps42
  go_wp2
  go_ret
  exact ⟨by rw [hE.out]; rfl, hB0⟩

set_option maxRecDepth 100000 in
set_option maxHeartbeats 2000000 in
/-- Are kids of kinds? By what is known of each kid. -/
theorem ref_all_any (p : Prg) (K : Int → Int) (A1 : Option Addr) (c1 : Nat) (ks : List Int) (A2 : Option Addr) (c2 : Nat) (ws : List Int) (w : World) (hp : p.Ok w)
    (HO : ∀ q ∈ ks, ∀ W, p.Ok W → Calls Try.prog 20 #[.agg #[.int .i64 p.ps, .slice p.A p.vs.length p.c, .slice p.B p.xs.length p.e], .int .i64 q] W fun e w' => e = .returned (.int .i64 (K q)) ∧ Below W.heap.size W w')
    (h1 : IRow w w.heap.size A1 ks) (h2 : IRow w w.heap.size A2 ws) (hl : ks.length ≤ 1000000) (hl2 : ws.length ≤ 1000000) :
    Calls Try.prog 44 #[.agg #[.int .i64 p.ps, .slice p.A p.vs.length p.c, .slice p.B p.xs.length p.e], .slice A1 ks.length c1, .slice A2 ws.length c2] w fun e w' => e = .returned (.bool (decide (ks.map K = ws))) ∧ Below w.heap.size w w' := by
  have hB0 : Below w.heap.size w (w.alloc (.cells #[.int .i64 p.ps, .slice p.A p.vs.length p.c, .slice p.B p.xs.length p.e] 25)) := (Below.refl _ _).alloc (Nat.le_refl _) _
  have bX := Blk.new w 25 #[.int .i64 p.ps, .slice p.A p.vs.length p.c, .slice p.B p.xs.length p.e]
  have HX := Lib.hid (hp.at hB0)
  have HK := Lib.hid (h1.at hB0)
  have HW := Lib.hid (h2.at hB0)
  have HOO := Lib.hid HO
  have hgl : w.heap.size < (w.alloc (.cells #[.int .i64 p.ps, .slice p.A p.vs.length p.c, .slice p.B p.xs.length p.e] 25)).heap.size := bX.lt
  have HBX := Lib.hid bX
  clear hp h1 h2 HO bX
  by_cases hll : ks.length = ws.length
  · obtain ⟨n, hn⟩ : ∃ n, n = ks.length := ⟨_, rfl⟩
    have hn' : ws.length = n := by omega
    rw [hn', ← hn]
    have HN := Lib.hid hn
    have HN' := Lib.hid hn'
    rw [← hn] at hl
    clear hn hn' hll hl2
    go_enter Try.func44, Try.ntmps44
    go_wp2_with fail
    generalize w.alloc (.cells #[.int .i64 p.ps, .slice p.A p.vs.length p.c, .slice p.B p.xs.length p.e] 25) = w1 at *
    go_loopw [7] (fun i wr => ∃ k : Nat, k ≤ n ∧ (ks.take k).map K = ws.take k ∧ i = .int .i64 k ∧ Below w1.heap.size w1 wr) (fun i _ => n - (intOf i).toNat)
    case atStart => exact ⟨0, by omega, rfl, rfl, Below.refl _ _⟩
    case round =>
      obtain ⟨k, hk, hs, rfl, hB⟩ := hrel
      have hBw := hB0.trans (hB.mono hB0.size)
      by_cases hlt : k < n
      · obtain ⟨x, hxk⟩ : ∃ x, ks[k]? = some x := ⟨_, List.getElem?_eq_getElem (show k < ks.length by rw [← HN.out]; exact hlt)⟩
        obtain ⟨y, hyk⟩ : ∃ y, ws[k]? = some y := ⟨_, List.getElem?_eq_getElem (show k < ws.length by rw [HN'.out]; exact hlt)⟩
        obtain ⟨ad, rfl, hb, k0⟩ := (HK.out.at hB) k x hxk
        obtain ⟨ad', rfl, hb', k1⟩ := (HW.out.at hB) k y hyk
        have hO := Lib.hid (HOO.out x (List.mem_of_getElem? hxk))
        have HCC := Lib.hid (fun W (h : Below w1.heap.size w1 W) => (show W.cell? ⟨w.heap.size, 0, none⟩ = some (.int .i64 p.ps) ∧ W.cell? ⟨w.heap.size, 1, none⟩ = some (.slice p.A p.vs.length p.c) ∧ W.cell? ⟨w.heap.size, 2, none⟩ = some (.slice p.B p.xs.length p.e) ∧ W.cell? (ad.add k) = some (.int .i64 x) ∧ W.cell? (ad'.add k) = some (.int .i64 y) from by
          obtain ⟨b0, b1, b2⟩ := (HBX.out.below h hgl).three
          obtain ⟨_, q1, _, q3⟩ := (HK.out.at h) k x hxk
          obtain ⟨_, q4, _, q6⟩ := (HW.out.at h) k y hyk
          cases q1; cases q4
          exact ⟨b0, b1, b2, q3, q6⟩))
        have hP := HX.out.at hB
        have i1 : (k : Int) < (n : Int) := by omega
        have i2 : (0 : Int) ≤ (k : Int) := by omega
        by_cases he : K x = y
        · have HS := Lib.hid (show (ks.take (k + 1)).map K = ws.take (k + 1) by rw [take_snoc ks k x hxk, take_snoc ws k y hyk, List.map_append, hs, ← he]; rfl)
          rw [he] at hO
          clear hs hxk hyk he
          have hC := HCC.out _ hB
          go_wp2_with fail
          go_region_held3 (fun w' => w'.cell? ⟨w.heap.size, 0, none⟩ = some (.int .i64 p.ps) ∧ w'.cell? ⟨w.heap.size, 1, none⟩ = some (.slice p.A p.vs.length p.c) ∧ w'.cell? ⟨w.heap.size, 2, none⟩ = some (.slice p.B p.xs.length p.e) ∧ w'.cell? (ad.add k) = some (.int .i64 x) ∧ w'.cell? (ad'.add k) = some (.int .i64 y)) (exact hC) (first
            | (go_at_call 20; refine (hO.out _ (hP.drew)).mono ?_; rintro e w3 ⟨rfl, hb⟩; have hBB := (hB.drew).trans (hb.mono hB.size); have hC := HCC.out _ hBB)
            | fail)
          go_wp2_with fail
          go_roundw
          case rel => exact ⟨k + 1, by omega, HS.out, by go_num, hBB⟩
          case measure => simp [intOf]; omega
        · have HF := Lib.hid (show decide (ks.map K = ws) = false by
            apply decide_eq_false
            intro q
            have h3 : (ks.map K)[k]? = some (K x) := by rw [List.getElem?_map, hxk]; rfl
            rw [q, hyk] at h3
            exact he (Option.some.inj h3).symm)
          obtain ⟨z, hz⟩ : ∃ z, K x = z := ⟨_, rfl⟩
          rw [hz] at hO he
          have e2 : (z == y) = false := by simpa using he
          have e3 : (z != y) = true := by simpa using he
          clear hs hxk hyk he hz
          have hC := HCC.out _ hB
          go_wp2_with fail
          go_region_held3 (fun w' => w'.cell? ⟨w.heap.size, 0, none⟩ = some (.int .i64 p.ps) ∧ w'.cell? ⟨w.heap.size, 1, none⟩ = some (.slice p.A p.vs.length p.c) ∧ w'.cell? ⟨w.heap.size, 2, none⟩ = some (.slice p.B p.xs.length p.e) ∧ w'.cell? (ad.add k) = some (.int .i64 x) ∧ w'.cell? (ad'.add k) = some (.int .i64 y)) (exact hC) (first
            | (go_at_call 20; refine (hO.out _ (hP.drew)).mono ?_; rintro e w3 ⟨rfl, hb⟩; have hBB := (hB.drew).trans (hb.mono hB.size); have hC := HCC.out _ hBB)
            | fail)
          go_wp2_with fail
          go_ret
          exact ⟨by rw [HF.out]; rfl, hB0.trans (hBB.mono hB0.size)⟩
      · have hk9 : k = n := by omega
        subst hk9
        have HF := Lib.hid (show decide (ks.map K = ws) = true by
          apply decide_eq_true
          rwa [List.take_of_length_le (by have := HN.out; omega), List.take_of_length_le (by have := HN'.out; omega)] at hs)
        have i1 : ¬ (k : Int) < (k : Int) := by omega
        clear hs
        go_wp2
        go_ret
        exact ⟨by rw [HF.out]; rfl, hBw⟩
  · have HF := Lib.hid (show decide (ks.map K = ws) = false by
      apply decide_eq_false
      rintro rfl
      exact hll (by rw [List.length_map]))
    have hne : ((ks.length : Int) == (ws.length : Int)) = false := by rw [beq_eq_false_iff_ne]; omega
    have hne2 : ((ks.length : Int) != (ws.length : Int)) = true := by simp; omega
    go_enter Try.func44, Try.ntmps44
    go_wp2
    go_ret
    exact ⟨by rw [HF.out]; rfl, hB0⟩

end Go.Proofs.Yteknfglfbkknaaa.Kinds
