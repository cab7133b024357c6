/-
  Plain facts on kinds: a node's kind, by its tag, its number, variables, and its kids' kinds and tags. No program is met here.
  Programs in memory; the reference of kinds, walked: its small functions.
  The reference of kinds, walked: blocks, variables.
  The reference of kinds, walked: a node's kind, a theorem a tag.
  The reference of kinds, walked: a node's kind, by recursion.
  The reference of kinds, walked: variables, a program, two programs.
  The reference of kinds, walked: a program, two programs.
  Plain facts on typed programs: what is below, what stands instead, a variable more. No program is met here.
  Arguments that are programs by value: what they hold.
  The laws of layer 9, walked on what the package's functions come to: the document's examples.
  The laws of layer 9, walked on what the package's functions come to: a node's kind is just what the document says.
-/
import Derived.Test.YtodejloonfkkmaaArenaH
import Derived.Deep.QuietTactic
namespace Go.Proofs.Ytodejloonfkkmaa.Kinds
open _root_.Go.Proofs.Ytodejloonfkkmaa.Arena

/-- A variable's type; -1: there is none. -/
def vtyp (vs : List Int) (v : Int) : Int := if v < 0 then -1 else vs.getD v.toNat (-1)
def asz (t : Int) : Int := if t < 2 ∨ 9 < t then 0 else t - 1
/-- If so, a kind; else -1. -/
def ifso (p : Prop) [Decidable p] (k : Int) : Int := if p then k else -1
theorem ifso_ge {p : Prop} [Decidable p] {k : Int} (h : 0 ≤ ifso p k) : p := by
  unfold ifso at h; split at h
  · assumption
  · omega
/-- Are the kids from the second one on blocks? -/
def blks (ks : List (Int × Int)) : Bool := (ks.drop 1).all fun y => decide (y.2 = 20)
/-- Are all of kind 2? -/
def alltwo (q : List Int) : Bool := q.all fun k => decide (k = 2)
/-- A node's kind, of its kids' kinds and tags. -/
def rule (vs : List Int) (x : Nd) (ks : List (Int × Int)) : Int :=
  if x.1 = 1 then 0 else if x.1 = 2 then 1
  else if x.1 = 3 then ifso (vtyp vs x.2 = 0 ∨ vtyp vs x.2 = 1) (vtyp vs x.2)
  else if x.1 = 4 then ifso (0 < asz (vtyp vs x.2) ∧ ks.map Prod.fst = [0]) 0
  else if x.1 = 5 then ifso (ks.map Prod.fst = [0]) 0
  else if x.1 = 6 then ifso (ks.map Prod.fst = [1]) 1
  else if 7 ≤ x.1 ∧ x.1 ≤ 11 then ifso (ks.map Prod.fst = [0, 0]) 0
  else if 12 ≤ x.1 ∧ x.1 ≤ 17 then ifso (ks.map Prod.fst = [0, 0]) 1
  else if x.1 = 18 ∨ x.1 = 19 then ifso (ks.map Prod.fst = [1, 1]) 1
  else if x.1 = 20 then ifso (alltwo (ks.map Prod.fst) = true) 2
  else if x.1 = 21 then ifso ((vtyp vs x.2 = 0 ∨ vtyp vs x.2 = 1) ∧ ks.map Prod.fst = [vtyp vs x.2]) 2
  else if x.1 = 22 then ifso (0 < asz (vtyp vs x.2) ∧ ks.map Prod.fst = [0, 0]) 2
  else if x.1 = 23 then ifso (ks.map Prod.fst = [1, 2, 2] ∧ blks ks = true) 2
  else if x.1 = 24 then ifso (ks.map Prod.fst = [1, 2] ∧ blks ks = true) 2
  else if x.1 = 25 then ifso (ks.map Prod.fst = [0]) 2
  else 2
/-- A node's kind and tag. -/
def kd (vs : List Int) (x : Nd) (ks : List (Int × Int)) : Int × Int := (rule vs x ks, x.1)
def okind (vs : List Int) (l : List Nd) (a : Int) : Int := (val (kd vs) (-1, 0) l a).1
def otag (l : List Nd) (a : Int) : Int := (l.getD a.toNat (0, 0)).1
theorem okind_bad {vs : List Int} {l : List Nd} {a : Int} (h : aend l a < 0) : okind vs l a = -1 := by unfold okind; rw [val_bad _ _ h]
theorem val_tag {vs : List Int} {l : List Nd} {k n : Nat} (h : scan 1 (l.drop k) = some n) : val (kd vs) (-1, 0) l k = (okind vs l k, otag l k) := by
  obtain ⟨x, hx, -, -, hv⟩ := val_kids (kd vs) (-1, 0) h
  have ht : otag l k = x.1 := by
    unfold otag
    rw [Int.toNat_natCast, List.getD_eq_getElem?_getD, hx]
    rfl
  have h2 : (val (kd vs) (-1, 0) l k).2 = x.1 := by rw [hv]; rfl
  unfold okind
  rw [ht, ← h2]
/-- A node's kind, of its kids'. -/
theorem okind_kids {vs : List Int} {l : List Nd} {k n : Nat} (h : scan 1 (l.drop k) = some n) : ∃ x, l[k]? = some x ∧ 0 ≤ ar x ∧ (akids l k).length = (ar x).toNat ∧ okind vs l k = rule vs x ((akids l k).map fun q => (okind vs l q, otag l q)) := by
  obtain ⟨x, hx, h0, hl, hv⟩ := val_kids (kd vs) (-1, 0) h
  refine ⟨x, hx, h0, hl, ?_⟩
  have hm : (akids l k).map (val (kd vs) (-1, 0) l) = (akids l k).map fun q => (okind vs l q, otag l q) := by
    apply List.map_congr_left
    intro q hq
    have h2 := (kids_in h q hq).2.2
    rcases aend_cases l q with h' | ⟨k', n', rfl, hs', -⟩
    · omega
    · exact val_tag hs'
  unfold okind
  rw [hv, hm]
  rfl
/-- What is of some kind has kids of some kind. -/
theorem rule_good {vs : List Int} (x : Nd) (ks : List (Int × Int)) (hx : 0 ≤ ar x) (hl : ks.length = (ar x).toNat) (h : 0 ≤ rule vs x ks) : ∀ y ∈ ks, 0 ≤ y.1 := by
  have key : ∀ L : List Int, ks.map Prod.fst = L → (∀ z ∈ L, 0 ≤ z) → ∀ y ∈ ks, 0 ≤ y.1 := by
    intro L hL hz y hy
    exact hz _ (by rw [← hL]; exact List.mem_map.2 ⟨y, hy, rfl⟩)
  have none : (ar x).toNat = 0 → ∀ y ∈ ks, 0 ≤ y.1 := by
    intro h0 y hy
    rw [List.length_eq_zero_iff.1 (hl.trans h0)] at hy; cases hy
  obtain ⟨t, n⟩ := x
  unfold rule at h
  simp only at h
  by_cases h1 : t = 1
  · subst h1; exact none (by simp [ar])
  rw [if_neg h1] at h
  by_cases h2 : t = 2
  · subst h2; exact none (by simp [ar, asks]; split <;> omega)
  rw [if_neg h2] at h
  by_cases h3 : t = 3
  · subst h3; exact none (by simp [ar, asks]; split <;> omega)
  rw [if_neg h3] at h
  by_cases h4 : t = 4
  · rw [if_pos h4] at h; exact key _ (ifso_ge h).2 (by simp)
  rw [if_neg h4] at h
  by_cases h5 : t = 5
  · rw [if_pos h5] at h; exact key _ (ifso_ge h) (by simp)
  rw [if_neg h5] at h
  by_cases h6 : t = 6
  · rw [if_pos h6] at h; exact key _ (ifso_ge h) (by simp)
  rw [if_neg h6] at h
  by_cases h7 : 7 ≤ t ∧ t ≤ 11
  · rw [if_pos h7] at h; exact key _ (ifso_ge h) (by simp)
  rw [if_neg h7] at h
  by_cases h12 : 12 ≤ t ∧ t ≤ 17
  · rw [if_pos h12] at h; exact key _ (ifso_ge h) (by simp)
  rw [if_neg h12] at h
  by_cases h18 : t = 18 ∨ t = 19
  · rw [if_pos h18] at h; exact key _ (ifso_ge h) (by simp)
  rw [if_neg h18] at h
  by_cases h20 : t = 20
  · rw [if_pos h20] at h
    have := ifso_ge h
    intro y hy
    unfold alltwo at this
    rw [List.all_eq_true] at this
    have := this y.1 (List.mem_map.2 ⟨y, hy, rfl⟩)
    simp at this
    omega
  rw [if_neg h20] at h
  by_cases h21 : t = 21
  · rw [if_pos h21] at h
    obtain ⟨q1, q2⟩ := ifso_ge h
    exact key _ q2 (by intro z hz; rw [List.mem_singleton] at hz; omega)
  rw [if_neg h21] at h
  by_cases h22 : t = 22
  · rw [if_pos h22] at h; exact key _ (ifso_ge h).2 (by simp)
  rw [if_neg h22] at h
  by_cases h23 : t = 23
  · rw [if_pos h23] at h; exact key _ (ifso_ge h).1 (by simp)
  rw [if_neg h23] at h
  by_cases h24 : t = 24
  · rw [if_pos h24] at h; exact key _ (ifso_ge h).1 (by simp)
  rw [if_neg h24] at h
  by_cases h25 : t = 25
  · rw [if_pos h25] at h; exact key _ (ifso_ge h) (by simp)
  by_cases h26 : t = 26
  · subst h26; exact none (by simp [ar, asks]; split <;> omega)
  · exfalso
    unfold ar asks at hx
    rw [if_neg h1, if_neg h2, if_neg h3, if_neg (by omega), if_neg h22, if_neg (by omega), if_neg (by omega), if_neg h20, if_neg h23, if_neg h26] at hx
    simp only at hx
    split at hx <;> omega

/-- WHAT A TYPED PROGRAM HAS BELOW A NODE IS TYPED, TOO. -/
theorem okind_below {vs : List Int} {l : List Nd} (hw : scan 1 l = some l.length) (h0 : 0 ≤ okind vs l 0) {k n : Nat} (h : scan 1 (l.drop k) = some n) : 0 ≤ okind vs l k :=
  val_good (kd vs) (-1, 0) (fun y => 0 ≤ y.1) (fun x ks h1 h2 h3 => rule_good x ks h1 h2 h3) hw h0 h
theorem asz_pos {t : Int} (h : 0 < asz t) : 0 ≤ t := by unfold asz at h; split at h <;> omega
end Go.Proofs.Ytodejloonfkkmaa.Kinds

namespace Go.Proofs.Ytodejloonfkkmaa.Kinds
open Go.RowKit Mem _root_.Go.Proofs.Ytodejloonfkkmaa.Arena
set_option linter.unusedVariables false
attribute [local go_sem ↓] Go.wp_at_zero Go.wp_at_succ

/-- A program: how many parameters, its variables' types, its body, and where these lie. -/
structure Prg where
  ps : Int
  A : Option Addr
  c : Nat
  vs : List Int
  B : Option Addr
  e : Nat
  xs : List Nd
/-- It lies in memory, and is not large. -/
structure Prg.Ok (p : Prg) (w : World) : Prop where
  vars : IRow w w.heap.size p.A p.vs
  body : Nodes w w.heap.size p.B p.xs
  lv : p.vs.length ≤ 1000000
  lx : p.xs.length ≤ 1000000
  cv : p.vs.length ≤ p.c
  ce : p.xs.length ≤ p.e
  nv : p.A = none → p.c = 0
  nb : p.B = none → p.e = 0
theorem Prg.Ok.at {p : Prg} {w w' : World} (h : p.Ok w) (hb : Below w.heap.size w w') : p.Ok w' := ⟨h.vars.at hb, h.body.at hb, h.lv, h.lx, h.cv, h.ce, h.nv, h.nb⟩
theorem Prg.Ok.drew {p : Prg} {w : World} (h : p.Ok w) : p.Ok w.drew := ⟨h.vars, h.body, h.lv, h.lx, h.cv, h.ce, h.nv, h.nb⟩

set_option maxRecDepth 100000 in
theorem ref_Size_any (t : Int) (w : World) : Calls Try.prog 22 #[.int .i64 t] w fun e w' => e = .returned (.int .i64 (asz t)) ∧ w' = w := by
  by_cases h1 : t < 2
  · have hE := Lib.hid (show asz t = 0 by unfold asz; rw [if_pos (.inl h1)])
    go_enter Try.func22, Try.ntmps22
    go_wp2
    go_ret
    exact ⟨by rw [hE.out]; rfl, rfl⟩
  by_cases h2 : 9 < t
  · have hE := Lib.hid (show asz t = 0 by unfold asz; rw [if_pos (.inr h2)])
    go_enter Try.func22, Try.ntmps22
    go_wp2
    go_ret
    exact ⟨by rw [hE.out]; rfl, rfl⟩
  have hE := Lib.hid (show asz t = t - 1 by unfold asz; rw [if_neg (by omega)])
  have v1 : IntKind.i64.wrap (t - 1) = t - 1 := IntWalk.i64_in _ (by omega)
  go_enter Try.func22, Try.ntmps22
  go_wp2
  go_ret
  exact ⟨by rw [hE.out]; rfl, rfl⟩

set_option maxRecDepth 100000 in
theorem ref_kind_any (b : Bool) (k : Int) (w : World) : Calls Try.prog 48 #[.bool b, .int .i64 k] w fun e w' => e = .returned (.int .i64 (ifso (b = true) k)) ∧ w' = w := by
  cases b
  · go_enter Try.func48, Try.ntmps48
    go_wp2
    go_ret
    exact ⟨rfl, rfl⟩
  · go_enter Try.func48, Try.ntmps48
    go_wp2
    go_ret
    exact ⟨rfl, rfl⟩

set_option maxRecDepth 100000 in
theorem ref_typed_any (p : Prg) (v : Int) (w : World) (hp : p.Ok w) : Calls Try.prog 47 #[.agg #[.int .i64 p.ps, .slice p.A p.vs.length p.c, .slice p.B p.xs.length p.e], .int .i64 v] w fun e w' => e = .returned (.int .i64 (vtyp p.vs v)) ∧ Below w.heap.size w w' := by
  have hB0 : Below w.heap.size w (w.alloc (.cells #[.int .i64 p.ps, .slice p.A p.vs.length p.c, .slice p.B p.xs.length p.e] 25)) := (Below.refl _ _).alloc (Nat.le_refl _) _
  have HX := Lib.hid (hp.at hB0).vars
  have hlv := hp.lv
  clear hp
  by_cases h1 : v < 0
  · have hE := Lib.hid (show vtyp p.vs v = -1 by unfold vtyp; rw [if_pos h1])
    go_enter Try.func47, Try.ntmps47
    go_wp2
    go_ret
    exact ⟨by rw [hE.out]; rfl, hB0⟩
  obtain ⟨k, rfl⟩ := Int.eq_ofNat_of_zero_le (show 0 ≤ v by omega)
  by_cases h2 : p.vs.length ≤ k
  · have hE := Lib.hid (show vtyp p.vs k = -1 by unfold vtyp; rw [if_neg h1, Int.toNat_natCast, List.getD_eq_getElem?_getD, List.getElem?_eq_none h2]; rfl)
    have i1 : (p.vs.length : Int) ≤ (k : Int) := by omega
    go_enter Try.func47, Try.ntmps47
    go_wp2
    go_ret
    exact ⟨by rw [hE.out]; rfl, hB0⟩
  obtain ⟨x, hx⟩ : ∃ x, p.vs[k]? = some x := ⟨_, List.getElem?_eq_getElem (by omega)⟩
  have hE := Lib.hid (show vtyp p.vs k = x by unfold vtyp; rw [if_neg h1, Int.toNat_natCast, List.getD_eq_getElem?_getD, hx]; rfl)
  obtain ⟨ad, hA, hb, g0⟩ := HX.out k x hx
  have i1 : (k : Int) < (p.vs.length : Int) := by omega
  have i2 : (0 : Int) ≤ (k : Int) := by omega
  clear hx
  obtain ⟨ps, A, c, vs, B, e, xs⟩ := p
  simp only at hA
  subst hA
  go_enter Try.func47, Try.ntmps47
  go_wp2
  go_ret
  exact ⟨by rw [hE.out]; rfl, hB0⟩

set_option maxRecDepth 100000 in
set_option maxHeartbeats 2000000 in
/-- Are kids of kinds? By what is known of each kid. -/
theorem ref_all_any (p : Prg) (K : Int → Int) (A1 : Option Addr) (c1 : Nat) (ks : List Int) (A2 : Option Addr) (c2 : Nat) (ws : List Int) (w : World) (hp : p.Ok w)
    (HO : ∀ q ∈ ks, ∀ W, p.Ok W → Calls Try.prog 37 #[.agg #[.int .i64 p.ps, .slice p.A p.vs.length p.c, .slice p.B p.xs.length p.e], .int .i64 q] W fun e w' => e = .returned (.int .i64 (K q)) ∧ Below W.heap.size W w')
    (h1 : IRow w w.heap.size A1 ks) (h2 : IRow w w.heap.size A2 ws) (hl : ks.length ≤ 1000000) (hl2 : ws.length ≤ 1000000) :
    Calls Try.prog 49 #[.agg #[.int .i64 p.ps, .slice p.A p.vs.length p.c, .slice p.B p.xs.length p.e], .slice A1 ks.length c1, .slice A2 ws.length c2] w fun e w' => e = .returned (.bool (decide (ks.map K = ws))) ∧ Below w.heap.size w w' := by
  have hB0 : Below w.heap.size w (w.alloc (.cells #[.int .i64 p.ps, .slice p.A p.vs.length p.c, .slice p.B p.xs.length p.e] 25)) := (Below.refl _ _).alloc (Nat.le_refl _) _
  have bX := Blk.new w 25 #[.int .i64 p.ps, .slice p.A p.vs.length p.c, .slice p.B p.xs.length p.e]
  have HX := Lib.hid (hp.at hB0)
  have HK := Lib.hid (h1.at hB0)
  have HW := Lib.hid (h2.at hB0)
  have HOO := Lib.hid HO
  have hgl : w.heap.size < (w.alloc (.cells #[.int .i64 p.ps, .slice p.A p.vs.length p.c, .slice p.B p.xs.length p.e] 25)).heap.size := bX.lt
  have HBX := Lib.hid bX
  clear hp h1 h2 HO bX
  by_cases hll : ks.length = ws.length
  · obtain ⟨n, hn⟩ : ∃ n, n = ks.length := ⟨_, rfl⟩
    have hn' : ws.length = n := by omega
    rw [hn', ← hn]
    have HN := Lib.hid hn
    have HN' := Lib.hid hn'
    rw [← hn] at hl
    clear hn hn' hll hl2
    go_enter Try.func49, Try.ntmps49
    go_wp2_with fail
    generalize w.alloc (.cells #[.int .i64 p.ps, .slice p.A p.vs.length p.c, .slice p.B p.xs.length p.e] 25) = w1 at *
    go_loopw [7] (fun i wr => ∃ k : Nat, k ≤ n ∧ (ks.take k).map K = ws.take k ∧ i = .int .i64 k ∧ Below w1.heap.size w1 wr) (fun i _ => n - (intOf i).toNat)
    case atStart => exact ⟨0, by omega, rfl, rfl, Below.refl _ _⟩
    case round =>
      obtain ⟨k, hk, hs, rfl, hB⟩ := hrel
      have hBw := hB0.trans (hB.mono hB0.size)
      by_cases hlt : k < n
      · obtain ⟨x, hxk⟩ : ∃ x, ks[k]? = some x := ⟨_, List.getElem?_eq_getElem (show k < ks.length by rw [← HN.out]; exact hlt)⟩
        obtain ⟨y, hyk⟩ : ∃ y, ws[k]? = some y := ⟨_, List.getElem?_eq_getElem (show k < ws.length by rw [HN'.out]; exact hlt)⟩
        obtain ⟨ad, rfl, hb, k0⟩ := (HK.out.at hB) k x hxk
        obtain ⟨ad', rfl, hb', k1⟩ := (HW.out.at hB) k y hyk
        have hO := Lib.hid (HOO.out x (List.mem_of_getElem? hxk))
        have HCC := Lib.hid (fun W (h : Below w1.heap.size w1 W) => (show W.cell? ⟨w.heap.size, 0, none⟩ = some (.int .i64 p.ps) ∧ W.cell? ⟨w.heap.size, 1, none⟩ = some (.slice p.A p.vs.length p.c) ∧ W.cell? ⟨w.heap.size, 2, none⟩ = some (.slice p.B p.xs.length p.e) ∧ W.cell? (ad.add k) = some (.int .i64 x) ∧ W.cell? (ad'.add k) = some (.int .i64 y) from by
          obtain ⟨b0, b1, b2⟩ := (HBX.out.below h hgl).three
          obtain ⟨_, q1, _, q3⟩ := (HK.out.at h) k x hxk
          obtain ⟨_, q4, _, q6⟩ := (HW.out.at h) k y hyk
          cases q1; cases q4
          exact ⟨b0, b1, b2, q3, q6⟩))
        have hP := HX.out.at hB
        have i1 : (k : Int) < (n : Int) := by omega
        have i2 : (0 : Int) ≤ (k : Int) := by omega
        by_cases he : K x = y
        · have HS := Lib.hid (show (ks.take (k + 1)).map K = ws.take (k + 1) by rw [take_snoc ks k x hxk, take_snoc ws k y hyk, List.map_append, hs, ← he]; rfl)
          rw [he] at hO
          clear hs hxk hyk he
          have hC := HCC.out _ hB
          go_wp2_with fail
          go_region_held3 (fun w' => w'.cell? ⟨w.heap.size, 0, none⟩ = some (.int .i64 p.ps) ∧ w'.cell? ⟨w.heap.size, 1, none⟩ = some (.slice p.A p.vs.length p.c) ∧ w'.cell? ⟨w.heap.size, 2, none⟩ = some (.slice p.B p.xs.length p.e) ∧ w'.cell? (ad.add k) = some (.int .i64 x) ∧ w'.cell? (ad'.add k) = some (.int .i64 y)) (exact hC) (first
            | (go_at_call 37; refine (hO.out _ (hP.drew)).mono ?_; rintro e w3 ⟨rfl, hb⟩; have hBB := (hB.drew).trans (hb.mono hB.size); have hC := HCC.out _ hBB)
            | fail)
          go_wp2_with fail
          go_roundw
          case rel => exact ⟨k + 1, by omega, HS.out, by go_num, hBB⟩
          case measure => simp [intOf]; omega
        · have HF := Lib.hid (show decide (ks.map K = ws) = false by
            apply decide_eq_false
            intro q
            have h3 : (ks.map K)[k]? = some (K x) := by rw [List.getElem?_map, hxk]; rfl
            rw [q, hyk] at h3
            exact he (Option.some.inj h3).symm)
          obtain ⟨z, hz⟩ : ∃ z, K x = z := ⟨_, rfl⟩
          rw [hz] at hO he
          have e2 : (z == y) = false := by simpa using he
          have e3 : (z != y) = true := by simpa using he
          clear hs hxk hyk he hz
          have hC := HCC.out _ hB
          go_wp2_with fail
          go_region_held3 (fun w' => w'.cell? ⟨w.heap.size, 0, none⟩ = some (.int .i64 p.ps) ∧ w'.cell? ⟨w.heap.size, 1, none⟩ = some (.slice p.A p.vs.length p.c) ∧ w'.cell? ⟨w.heap.size, 2, none⟩ = some (.slice p.B p.xs.length p.e) ∧ w'.cell? (ad.add k) = some (.int .i64 x) ∧ w'.cell? (ad'.add k) = some (.int .i64 y)) (exact hC) (first
            | (go_at_call 37; refine (hO.out _ (hP.drew)).mono ?_; rintro e w3 ⟨rfl, hb⟩; have hBB := (hB.drew).trans (hb.mono hB.size); have hC := HCC.out _ hBB)
            | fail)
          go_wp2_with fail
          go_ret
          exact ⟨by rw [HF.out]; rfl, hB0.trans (hBB.mono hB0.size)⟩
      · have hk9 : k = n := by omega
        subst hk9
        have HF := Lib.hid (show decide (ks.map K = ws) = true by
          apply decide_eq_true
          rwa [List.take_of_length_le (by have := HN.out; omega), List.take_of_length_le (by have := HN'.out; omega)] at hs)
        have i1 : ¬ (k : Int) < (k : Int) := by omega
        clear hs
        go_wp2
        go_ret
        exact ⟨by rw [HF.out]; rfl, hBw⟩
  · have HF := Lib.hid (show decide (ks.map K = ws) = false by
      apply decide_eq_false
      rintro rfl
      exact hll (by rw [List.length_map]))
    have hne : ((ks.length : Int) == (ws.length : Int)) = false := by rw [beq_eq_false_iff_ne]; omega
    have hne2 : ((ks.length : Int) != (ws.length : Int)) = true := by simp; omega
    go_enter Try.func49, Try.ntmps49
    go_wp2
    go_ret
    exact ⟨by rw [HF.out]; rfl, hB0⟩

end Go.Proofs.Ytodejloonfkkmaa.Kinds

namespace Go.Proofs.Ytodejloonfkkmaa.Kinds
open Go.RowKit Mem _root_.Go.Proofs.Ytodejloonfkkmaa.Arena
set_option linter.unusedVariables false
attribute [local go_sem ↓] Go.wp_at_zero Go.wp_at_succ

/-- Are kids blocks, from one on? -/
def tags (xs : List Nd) (ks : List Int) : Bool := ks.all fun q => decide (otag xs q = 20)
theorem tags_snoc (xs : List Nd) (ks : List Int) (k : Nat) (q : Int) (h : ks[k]? = some q) : tags xs (ks.take (k + 1)) = (tags xs (ks.take k) && decide (otag xs q = 20)) := by
  rw [take_snoc ks k q h]; simp [tags]
theorem tags_bad {xs : List Nd} {ks : List Int} {k : Nat} {q : Int} (h : ks[k]? = some q) (hq : otag xs q ≠ 20) : tags xs ks = false := by
  unfold tags
  rw [List.all_eq_false]
  exact ⟨q, List.mem_of_getElem? h, by simpa using hq⟩

set_option maxRecDepth 100000 in
set_option maxHeartbeats 2000000 in
theorem ref_blocks_any (p : Prg) (A1 : Option Addr) (c1 : Nat) (ks : List Int) (w : World) (hp : p.Ok w)
    (hq : ∀ q ∈ ks, ∃ k x, q = ((k : Nat) : Int) ∧ p.xs[k]? = some x) (h1 : IRow w w.heap.size A1 ks) (hl : ks.length ≤ 1000000) (h0 : 1 ≤ ks.length) :
    Calls Try.prog 50 #[.agg #[.int .i64 p.ps, .slice p.A p.vs.length p.c, .slice p.B p.xs.length p.e], .slice A1 ks.length c1, .int .i64 1] w fun e w' => e = .returned (.bool (tags p.xs (ks.drop 1))) ∧ Below w.heap.size w w' := by
  have hB0 : Below w.heap.size w (w.alloc (.cells #[.int .i64 p.ps, .slice p.A p.vs.length p.c, .slice p.B p.xs.length p.e] 25)) := (Below.refl _ _).alloc (Nat.le_refl _) _
  have bX := Blk.new w 25 #[.int .i64 p.ps, .slice p.A p.vs.length p.c, .slice p.B p.xs.length p.e]
  have HX := Lib.hid (hp.at hB0)
  have HK := Lib.hid (h1.at hB0)
  have HQ := Lib.hid hq
  have hgl : w.heap.size < (w.alloc (.cells #[.int .i64 p.ps, .slice p.A p.vs.length p.c, .slice p.B p.xs.length p.e] 25)).heap.size := bX.lt
  have HBX := Lib.hid bX
  have hlx := hp.lx
  clear hp h1 hq bX
  obtain ⟨T, hT⟩ : ∃ T, tags p.xs (ks.drop 1) = T := ⟨_, rfl⟩
  rw [hT]
  have HT := Lib.hid hT
  clear hT
  go_enter Try.func50, Try.ntmps50
  go_wp2_with fail
  generalize w.alloc (.cells #[.int .i64 p.ps, .slice p.A p.vs.length p.c, .slice p.B p.xs.length p.e] 25) = w1 at *
  go_loopw [7] (fun i wr => ∃ j : Nat, 1 ≤ j ∧ j ≤ ks.length ∧ tags p.xs ((ks.drop 1).take (j - 1)) = true ∧ i = .int .i64 j ∧ Below w1.heap.size w1 wr) (fun i _ => ks.length - (intOf i).toNat)
  case atStart => exact ⟨1, by omega, by omega, rfl, rfl, Below.refl _ _⟩
  case round =>
    obtain ⟨j, hj1, hj, hs, rfl, hB⟩ := hrel
    have hBw := hB0.trans (hB.mono hB0.size)
    by_cases hlt : j < ks.length
    · obtain ⟨q, hqk⟩ : ∃ q, ks[j]? = some q := ⟨_, List.getElem?_eq_getElem hlt⟩
      have hqd : (ks.drop 1)[j - 1]? = some q := by rw [List.getElem?_drop, show 1 + (j - 1) = j by omega]; exact hqk
      obtain ⟨ad, rfl, hb, k0⟩ := (HK.out.at hB) j q hqk
      obtain ⟨m, x, rfl, hxm⟩ := HQ.out q (List.mem_of_getElem? hqk)
      obtain ⟨ad2, hB2, hb2, g0, g1⟩ := (HX.out.at hB).body m x hxm
      have htag : otag p.xs (m : Int) = x.1 := by unfold otag; rw [Int.toNat_natCast, List.getD_eq_getElem?_getD, hxm]; rfl
      obtain ⟨b0, b1, b2⟩ := (HBX.out.below hB hgl).three
      have hsn := tags_snoc p.xs (ks.drop 1) (j - 1) m hqd
      rw [show j - 1 + 1 = (j + 1) - 1 by omega] at hsn
      have i1 : (j : Int) < (ks.length : Int) := by omega
      have i2 : (0 : Int) ≤ (j : Int) := by omega
      have i3 : (m : Int) < (p.xs.length : Int) := by have := (List.getElem?_eq_some_iff.1 hxm).1; omega
      have i4 : (0 : Int) ≤ (m : Int) := by omega
      rw [hB2] at b2
      by_cases he : x.1 = 20
      · rw [hs, htag, decide_eq_true he, Bool.and_true] at hsn
        have HS := Lib.hid hsn
        rw [he] at g0
        clear hs hsn hqk hqd hxm htag he hB2
        go_wp2_with fail
        go_quiet (fail)
        go_wp2_with fail
        go_roundw
        case rel => exact ⟨j + 1, by omega, by omega, HS.out, by go_num, belowN hB _⟩
        case measure => simp [intOf]; omega
      · have HF := Lib.hid (show T = false by rw [← HT.out]; exact tags_bad hqd (by rw [htag]; exact he))
        obtain ⟨z, hz⟩ : ∃ z, x.1 = z := ⟨_, rfl⟩
        rw [hz] at g0 he
        have e2 : (z == 20) = false := by simpa using he
        have e3 : (z != 20) = true := by simpa using he
        clear hs hsn hqk hqd hxm htag he hB2 hz
        go_wp2_with fail
        go_quiet (fail)
        go_wp2_with fail
        go_ret
        exact ⟨by rw [HF.out]; rfl, belowN hBw _⟩
    · have hk9 : j = ks.length := by omega
      have HF := Lib.hid (show T = true by rw [← HT.out]; rwa [List.take_of_length_le (by rw [List.length_drop]; omega)] at hs)
      have i1 : ¬ (j : Int) < (ks.length : Int) := by omega
      have i2 : (ks.length : Int) ≤ (j : Int) := by omega
      clear hs hk9
      go_wp2
      go_ret
      exact ⟨by rw [HF.out]; rfl, hBw⟩

end Go.Proofs.Ytodejloonfkkmaa.Kinds

namespace Go.Proofs.Ytodejloonfkkmaa.Kinds
open Go.RowKit Mem _root_.Go.Proofs.Ytodejloonfkkmaa.Arena
set_option linter.unusedVariables false
attribute [local go_sem ↓] Go.wp_at_zero Go.wp_at_succ

/-- What is known of a node's kids: each may be asked. -/
structure Asks (p : Prg) (ks : List Int) : Prop where
  of : ∀ q ∈ ks, ∀ W, p.Ok W → Calls Try.prog 37 #[.agg #[.int .i64 p.ps, .slice p.A p.vs.length p.c, .slice p.B p.xs.length p.e], .int .i64 q] W fun e w' => e = .returned (.int .i64 (okind p.vs p.xs q)) ∧ Below W.heap.size W w'
  inn : ∀ q ∈ ks, ∃ k x, q = ((k : Nat) : Int) ∧ p.xs[k]? = some x
  len : ks.length ≤ 200
/-- A node at k, of tag t and number n, its kids ks. -/
structure NodeAt (p : Prg) (k : Nat) (t n : Int) (ks : List Int) : Prop where
  node : p.xs[k]? = some (t, n)
  ends : 0 ≤ aend p.xs k
  kids : akids p.xs k = ks
  arity : ks.length = (ar (t, n)).toNat

theorem IRow.one {w : World} {B : Nat} (g : Nat) (ws : List Int) (h : Blk w g 3 (icells ws).toArray) (hB : g < B) : IRow w B (some ⟨g, 0, none⟩) ws := by
  intro i x hx
  refine ⟨_, rfl, hB, ?_⟩
  have : (⟨g, 0, none⟩ : Addr).add i = ⟨g, i, none⟩ := by unfold Addr.add; split <;> simp_all
  rw [this, h.cell]; simp [icells, hx]

theorem ifso_iff {p q : Prop} [Decidable p] [Decidable q] (h : p ↔ q) (k : Int) : ifso p k = ifso q k := by unfold ifso; by_cases hp : p <;> simp [hp, ← h]
theorem ifso_dec {p : Prop} [Decidable p] (k : Int) : ifso (decide p = true) k = ifso p k := by unfold ifso; by_cases h : p <;> simp [h]

set_option maxRecDepth 100000 in
set_option maxHeartbeats 2000000 in
theorem of_1 (p : Prg) (k : Nat) (n : Int) (ks : List Int) (w : World) (hp : p.Ok w) (hN : NodeAt p k 1 n ks) (hA : Asks p ks) :
    Calls Try.prog 37 #[.agg #[.int .i64 p.ps, .slice p.A p.vs.length p.c, .slice p.B p.xs.length p.e], .int .i64 k] w fun e w' => e = .returned (.int .i64 (0)) ∧ Below w.heap.size w w' := by
  obtain ⟨ad, hB1, -, -, -⟩ := hp.body k _ hN.node
  obtain ⟨ps, A, c, vs, B, e, xs⟩ := p
  simp only at hB1
  subst hB1
  have hB0 : Below w.heap.size w (w.alloc (.cells #[.int .i64 ps, .slice A vs.length c, .slice (some ad) xs.length e] 25)) := (Below.refl _ _).alloc (Nat.le_refl _) _
  have bX := Blk.new w 25 #[.int .i64 ps, .slice A vs.length c, .slice (some ad) xs.length e]
  have hgl : w.heap.size < (w.alloc (.cells #[.int .i64 ps, .slice A vs.length c, .slice (some ad) xs.length e] 25)).heap.size := bX.lt
  have HBX := Lib.hid (fun W (h : Below (w.alloc (.cells #[.int .i64 ps, .slice A vs.length c, .slice (some ad) xs.length e] 25)).heap.size (w.alloc (.cells #[.int .i64 ps, .slice A vs.length c, .slice (some ad) xs.length e] 25)) W) => (bX.below h hgl).three)
  have HX := Lib.hid (hp.at hB0)
  have hlx : xs.length ≤ 1000000 := hp.lx
  obtain ⟨E, hE⟩ := Int.eq_ofNat_of_zero_le hN.ends
  have hks := hN.kids
  simp only at hE hks
  have HE := Lib.hid (fun W (hW : Nodes W W.heap.size (some ad) xs) => ref_End_any (some ad) e xs (k : Int) W hW hlx)
  rw [hE] at HE
  have HK := Lib.hid (fun W (hW : Nodes W W.heap.size (some ad) xs) => (ref_Kids_any (some ad) e xs (k : Int) W hW hlx).mono (fun _ _ h => h.ints))
  rw [hks] at HK
  have HT := Lib.hid (fun W (hW : Prg.Ok ⟨ps, A, c, vs, some ad, e, xs⟩ W) => ref_typed_any ⟨ps, A, c, vs, some ad, e, xs⟩ n W hW)
  have hn : xs[k]? = some (1, n) := hN.node
  have HBD := Lib.hid (fun W (hW : Nodes W W.heap.size (some ad) xs) => show W.cell? (ad.add (k * 2)) = some (.int .i64 1) ∧ W.cell? ⟨(ad.add (k * 2)).block, (ad.add (k * 2)).off + 1, none⟩ = some (.int .i64 n) from by
    obtain ⟨_, q, -, q1, q2⟩ := hW k _ hn
    cases q
    exact ⟨q1, q2⟩)
  have i1 : (k : Int) < (xs.length : Int) := by have := (List.getElem?_eq_some_iff.1 hn).1; omega
  have i2 : (0 : Int) ≤ (k : Int) := by omega
  have i3 : ¬ (E : Int) < 0 := by omega
  have HAS := Lib.hid hA
  obtain ⟨t, ht⟩ : ∃ t, vtyp vs n = t := ⟨_, rfl⟩
  simp only [ht] at HT
  clear hN hA hn hE hks hp bX ht
  obtain ⟨b0, b1, b2⟩ := HBX.out _ (Below.refl _ _)
  go_enter Try.func37, Try.ntmps37
  go_wp2_with (first
    | (go_at_call 36; refine (HE.out _ HX.out.body).mono ?_; rintro e w2 ⟨rfl, hb2⟩; have hP2 := HX.out.at hb2; obtain ⟨a0, a1, a2⟩ := HBX.out _ hb2; obtain ⟨g0, g1⟩ := HBD.out _ hP2.body; have hn3 : Below w2.heap.size w2 (w2.alloc (.cells #[.int .i64 1, .int .i64 n] 39)) := (Below.refl _ _).alloc (Nat.le_refl _) _; have hb3 := hb2.trans (hn3.mono hb2.size); have bN := Blk.new w2 39 #[.int .i64 1, .int .i64 n]; have hnl := bN.lt; have hP3 := hP2.at hn3; obtain ⟨b0, b1, b2⟩ := HBX.out _ hb3)
    | (go_at_call 38; refine (HK.out _ hP3.body).mono ?_; rintro e w4 ⟨hb, A1, c1, rfl, hR4, -⟩; have hb4 := hb3.trans (hb.mono hb3.size); have bN4 := bN.below hb hnl; obtain ⟨n0, n1⟩ := bN4.two; have hnl4 := bN4.lt; have hP4 := hP3.at hb; obtain ⟨b0, b1, b2⟩ := HBX.out _ hb4)
    | (go_at_call 47; refine (HT.out _ hP4).mono ?_; rintro e w5 ⟨rfl, hb⟩; have hb5 := hb4.trans (hb.mono hb4.size); have bN5 := bN4.below hb hnl4; obtain ⟨n0, n1⟩ := bN5.two; have hP5 := hP4.at hb; have hR5 := hR4.at hb; obtain ⟨b0, b1, b2⟩ := HBX.out _ hb5))
  go_ret
  exact ⟨rfl, hB0.trans (hb5.mono hB0.size)⟩
set_option maxRecDepth 100000 in
set_option maxHeartbeats 2000000 in
theorem of_2 (p : Prg) (k : Nat) (n : Int) (ks : List Int) (w : World) (hp : p.Ok w) (hN : NodeAt p k 2 n ks) (hA : Asks p ks) :
    Calls Try.prog 37 #[.agg #[.int .i64 p.ps, .slice p.A p.vs.length p.c, .slice p.B p.xs.length p.e], .int .i64 k] w fun e w' => e = .returned (.int .i64 (1)) ∧ Below w.heap.size w w' := by
  obtain ⟨ad, hB1, -, -, -⟩ := hp.body k _ hN.node
  obtain ⟨ps, A, c, vs, B, e, xs⟩ := p
  simp only at hB1
  subst hB1
  have hB0 : Below w.heap.size w (w.alloc (.cells #[.int .i64 ps, .slice A vs.length c, .slice (some ad) xs.length e] 25)) := (Below.refl _ _).alloc (Nat.le_refl _) _
  have bX := Blk.new w 25 #[.int .i64 ps, .slice A vs.length c, .slice (some ad) xs.length e]
  have hgl : w.heap.size < (w.alloc (.cells #[.int .i64 ps, .slice A vs.length c, .slice (some ad) xs.length e] 25)).heap.size := bX.lt
  have HBX := Lib.hid (fun W (h : Below (w.alloc (.cells #[.int .i64 ps, .slice A vs.length c, .slice (some ad) xs.length e] 25)).heap.size (w.alloc (.cells #[.int .i64 ps, .slice A vs.length c, .slice (some ad) xs.length e] 25)) W) => (bX.below h hgl).three)
  have HX := Lib.hid (hp.at hB0)
  have hlx : xs.length ≤ 1000000 := hp.lx
  obtain ⟨E, hE⟩ := Int.eq_ofNat_of_zero_le hN.ends
  have hks := hN.kids
  simp only at hE hks
  have HE := Lib.hid (fun W (hW : Nodes W W.heap.size (some ad) xs) => ref_End_any (some ad) e xs (k : Int) W hW hlx)
  rw [hE] at HE
  have HK := Lib.hid (fun W (hW : Nodes W W.heap.size (some ad) xs) => (ref_Kids_any (some ad) e xs (k : Int) W hW hlx).mono (fun _ _ h => h.ints))
  rw [hks] at HK
  have HT := Lib.hid (fun W (hW : Prg.Ok ⟨ps, A, c, vs, some ad, e, xs⟩ W) => ref_typed_any ⟨ps, A, c, vs, some ad, e, xs⟩ n W hW)
  have hn : xs[k]? = some (2, n) := hN.node
  have HBD := Lib.hid (fun W (hW : Nodes W W.heap.size (some ad) xs) => show W.cell? (ad.add (k * 2)) = some (.int .i64 2) ∧ W.cell? ⟨(ad.add (k * 2)).block, (ad.add (k * 2)).off + 1, none⟩ = some (.int .i64 n) from by
    obtain ⟨_, q, -, q1, q2⟩ := hW k _ hn
    cases q
    exact ⟨q1, q2⟩)
  have i1 : (k : Int) < (xs.length : Int) := by have := (List.getElem?_eq_some_iff.1 hn).1; omega
  have i2 : (0 : Int) ≤ (k : Int) := by omega
  have i3 : ¬ (E : Int) < 0 := by omega
  have HAS := Lib.hid hA
  obtain ⟨t, ht⟩ : ∃ t, vtyp vs n = t := ⟨_, rfl⟩
  simp only [ht] at HT
  clear hN hA hn hE hks hp bX ht
  obtain ⟨b0, b1, b2⟩ := HBX.out _ (Below.refl _ _)
  go_enter Try.func37, Try.ntmps37
  go_wp2_with (first
    | (go_at_call 36; refine (HE.out _ HX.out.body).mono ?_; rintro e w2 ⟨rfl, hb2⟩; have hP2 := HX.out.at hb2; obtain ⟨a0, a1, a2⟩ := HBX.out _ hb2; obtain ⟨g0, g1⟩ := HBD.out _ hP2.body; have hn3 : Below w2.heap.size w2 (w2.alloc (.cells #[.int .i64 2, .int .i64 n] 39)) := (Below.refl _ _).alloc (Nat.le_refl _) _; have hb3 := hb2.trans (hn3.mono hb2.size); have bN := Blk.new w2 39 #[.int .i64 2, .int .i64 n]; have hnl := bN.lt; have hP3 := hP2.at hn3; obtain ⟨b0, b1, b2⟩ := HBX.out _ hb3)
    | (go_at_call 38; refine (HK.out _ hP3.body).mono ?_; rintro e w4 ⟨hb, A1, c1, rfl, hR4, -⟩; have hb4 := hb3.trans (hb.mono hb3.size); have bN4 := bN.below hb hnl; obtain ⟨n0, n1⟩ := bN4.two; have hnl4 := bN4.lt; have hP4 := hP3.at hb; obtain ⟨b0, b1, b2⟩ := HBX.out _ hb4)
    | (go_at_call 47; refine (HT.out _ hP4).mono ?_; rintro e w5 ⟨rfl, hb⟩; have hb5 := hb4.trans (hb.mono hb4.size); have bN5 := bN4.below hb hnl4; obtain ⟨n0, n1⟩ := bN5.two; have hP5 := hP4.at hb; have hR5 := hR4.at hb; obtain ⟨b0, b1, b2⟩ := HBX.out _ hb5))
  go_ret
  exact ⟨rfl, hB0.trans (hb5.mono hB0.size)⟩
set_option maxRecDepth 100000 in
set_option maxHeartbeats 2000000 in
theorem of_3 (p : Prg) (k : Nat) (n : Int) (ks : List Int) (w : World) (hp : p.Ok w) (hN : NodeAt p k 3 n ks) (hA : Asks p ks) :
    Calls Try.prog 37 #[.agg #[.int .i64 p.ps, .slice p.A p.vs.length p.c, .slice p.B p.xs.length p.e], .int .i64 k] w fun e w' => e = .returned (.int .i64 (ifso (vtyp p.vs n = 0 ∨ vtyp p.vs n = 1) (vtyp p.vs n))) ∧ Below w.heap.size w w' := by
  obtain ⟨ad, hB1, -, -, -⟩ := hp.body k _ hN.node
  obtain ⟨ps, A, c, vs, B, e, xs⟩ := p
  simp only at hB1
  subst hB1
  have hB0 : Below w.heap.size w (w.alloc (.cells #[.int .i64 ps, .slice A vs.length c, .slice (some ad) xs.length e] 25)) := (Below.refl _ _).alloc (Nat.le_refl _) _
  have bX := Blk.new w 25 #[.int .i64 ps, .slice A vs.length c, .slice (some ad) xs.length e]
  have hgl : w.heap.size < (w.alloc (.cells #[.int .i64 ps, .slice A vs.length c, .slice (some ad) xs.length e] 25)).heap.size := bX.lt
  have HBX := Lib.hid (fun W (h : Below (w.alloc (.cells #[.int .i64 ps, .slice A vs.length c, .slice (some ad) xs.length e] 25)).heap.size (w.alloc (.cells #[.int .i64 ps, .slice A vs.length c, .slice (some ad) xs.length e] 25)) W) => (bX.below h hgl).three)
  have HX := Lib.hid (hp.at hB0)
  have hlx : xs.length ≤ 1000000 := hp.lx
  obtain ⟨E, hE⟩ := Int.eq_ofNat_of_zero_le hN.ends
  have hks := hN.kids
  simp only at hE hks
  have HE := Lib.hid (fun W (hW : Nodes W W.heap.size (some ad) xs) => ref_End_any (some ad) e xs (k : Int) W hW hlx)
  rw [hE] at HE
  have HK := Lib.hid (fun W (hW : Nodes W W.heap.size (some ad) xs) => (ref_Kids_any (some ad) e xs (k : Int) W hW hlx).mono (fun _ _ h => h.ints))
  rw [hks] at HK
  have HT := Lib.hid (fun W (hW : Prg.Ok ⟨ps, A, c, vs, some ad, e, xs⟩ W) => ref_typed_any ⟨ps, A, c, vs, some ad, e, xs⟩ n W hW)
  have hn : xs[k]? = some (3, n) := hN.node
  have HBD := Lib.hid (fun W (hW : Nodes W W.heap.size (some ad) xs) => show W.cell? (ad.add (k * 2)) = some (.int .i64 3) ∧ W.cell? ⟨(ad.add (k * 2)).block, (ad.add (k * 2)).off + 1, none⟩ = some (.int .i64 n) from by
    obtain ⟨_, q, -, q1, q2⟩ := hW k _ hn
    cases q
    exact ⟨q1, q2⟩)
  have i1 : (k : Int) < (xs.length : Int) := by have := (List.getElem?_eq_some_iff.1 hn).1; omega
  have i2 : (0 : Int) ≤ (k : Int) := by omega
  have i3 : ¬ (E : Int) < 0 := by omega
  have HAS := Lib.hid hA
  obtain ⟨t, ht⟩ : ∃ t, vtyp vs n = t := ⟨_, rfl⟩
  simp only [ht] at HT ⊢
  clear hN hA hn hE hks hp bX ht
  obtain ⟨b0, b1, b2⟩ := HBX.out _ (Below.refl _ _)
  have HKD := Lib.hid (fun b k W => ref_kind_any b k W)
  by_cases h0 : t = 0
  · subst h0
    go_enter Try.func37, Try.ntmps37
    go_wp2_with (first
      | (go_at_call 36; refine (HE.out _ HX.out.body).mono ?_; rintro e w2 ⟨rfl, hb2⟩; have hP2 := HX.out.at hb2; obtain ⟨a0, a1, a2⟩ := HBX.out _ hb2; obtain ⟨g0, g1⟩ := HBD.out _ hP2.body; have hn3 : Below w2.heap.size w2 (w2.alloc (.cells #[.int .i64 3, .int .i64 n] 39)) := (Below.refl _ _).alloc (Nat.le_refl _) _; have hb3 := hb2.trans (hn3.mono hb2.size); have bN := Blk.new w2 39 #[.int .i64 3, .int .i64 n]; have hnl := bN.lt; have hP3 := hP2.at hn3; obtain ⟨b0, b1, b2⟩ := HBX.out _ hb3)
      | (go_at_call 38; refine (HK.out _ hP3.body).mono ?_; rintro e w4 ⟨hb, A1, c1, rfl, hR4, -⟩; have hb4 := hb3.trans (hb.mono hb3.size); have bN4 := bN.below hb hnl; obtain ⟨n0, n1⟩ := bN4.two; have hnl4 := bN4.lt; have hP4 := hP3.at hb; obtain ⟨b0, b1, b2⟩ := HBX.out _ hb4)
      | (go_at_call 47; refine (HT.out _ hP4).mono ?_; rintro e w5 ⟨rfl, hb⟩; have hb5 := hb4.trans (hb.mono hb4.size); have bN5 := bN4.below hb hnl4; obtain ⟨n0, n1⟩ := bN5.two; have hP5 := hP4.at hb; have hR5 := hR4.at hb; obtain ⟨b0, b1, b2⟩ := HBX.out _ hb5)
      | (go_at_call 48; refine (HKD.out _ _ _).mono ?_; rintro e w8 ⟨rfl, rfl⟩))
    go_ret
    exact ⟨rfl, hB0.trans (hb5.mono hB0.size)⟩
  by_cases h1 : t = 1
  · subst h1
    go_enter Try.func37, Try.ntmps37
    go_wp2_with (first
      | (go_at_call 36; refine (HE.out _ HX.out.body).mono ?_; rintro e w2 ⟨rfl, hb2⟩; have hP2 := HX.out.at hb2; obtain ⟨a0, a1, a2⟩ := HBX.out _ hb2; obtain ⟨g0, g1⟩ := HBD.out _ hP2.body; have hn3 : Below w2.heap.size w2 (w2.alloc (.cells #[.int .i64 3, .int .i64 n] 39)) := (Below.refl _ _).alloc (Nat.le_refl _) _; have hb3 := hb2.trans (hn3.mono hb2.size); have bN := Blk.new w2 39 #[.int .i64 3, .int .i64 n]; have hnl := bN.lt; have hP3 := hP2.at hn3; obtain ⟨b0, b1, b2⟩ := HBX.out _ hb3)
      | (go_at_call 38; refine (HK.out _ hP3.body).mono ?_; rintro e w4 ⟨hb, A1, c1, rfl, hR4, -⟩; have hb4 := hb3.trans (hb.mono hb3.size); have bN4 := bN.below hb hnl; obtain ⟨n0, n1⟩ := bN4.two; have hnl4 := bN4.lt; have hP4 := hP3.at hb; obtain ⟨b0, b1, b2⟩ := HBX.out _ hb4)
      | (go_at_call 47; refine (HT.out _ hP4).mono ?_; rintro e w5 ⟨rfl, hb⟩; have hb5 := hb4.trans (hb.mono hb4.size); have bN5 := bN4.below hb hnl4; obtain ⟨n0, n1⟩ := bN5.two; have hP5 := hP4.at hb; have hR5 := hR4.at hb; obtain ⟨b0, b1, b2⟩ := HBX.out _ hb5)
      | (go_at_call 48; refine (HKD.out _ _ _).mono ?_; rintro e w8 ⟨rfl, rfl⟩))
    go_ret
    exact ⟨rfl, hB0.trans (hb5.mono hB0.size)⟩
  have e0 : (t == 0) = false := by simpa using h0
  have e1 : (t == 1) = false := by simpa using h1
  have HF := Lib.hid (show ifso (t = 0 ∨ t = 1) t = -1 by unfold ifso; rw [if_neg (by omega)])
  go_enter Try.func37, Try.ntmps37
  go_wp2_with (first
    | (go_at_call 36; refine (HE.out _ HX.out.body).mono ?_; rintro e w2 ⟨rfl, hb2⟩; have hP2 := HX.out.at hb2; obtain ⟨a0, a1, a2⟩ := HBX.out _ hb2; obtain ⟨g0, g1⟩ := HBD.out _ hP2.body; have hn3 : Below w2.heap.size w2 (w2.alloc (.cells #[.int .i64 3, .int .i64 n] 39)) := (Below.refl _ _).alloc (Nat.le_refl _) _; have hb3 := hb2.trans (hn3.mono hb2.size); have bN := Blk.new w2 39 #[.int .i64 3, .int .i64 n]; have hnl := bN.lt; have hP3 := hP2.at hn3; obtain ⟨b0, b1, b2⟩ := HBX.out _ hb3)
    | (go_at_call 38; refine (HK.out _ hP3.body).mono ?_; rintro e w4 ⟨hb, A1, c1, rfl, hR4, -⟩; have hb4 := hb3.trans (hb.mono hb3.size); have bN4 := bN.below hb hnl; obtain ⟨n0, n1⟩ := bN4.two; have hnl4 := bN4.lt; have hP4 := hP3.at hb; obtain ⟨b0, b1, b2⟩ := HBX.out _ hb4)
    | (go_at_call 47; refine (HT.out _ hP4).mono ?_; rintro e w5 ⟨rfl, hb⟩; have hb5 := hb4.trans (hb.mono hb4.size); have bN5 := bN4.below hb hnl4; obtain ⟨n0, n1⟩ := bN5.two; have hP5 := hP4.at hb; have hR5 := hR4.at hb; obtain ⟨b0, b1, b2⟩ := HBX.out _ hb5)
    | (go_at_call 48; refine (HKD.out _ _ _).mono ?_; rintro e w8 ⟨rfl, rfl⟩))
  go_ret
  exact ⟨by rw [HF.out]; rfl, hB0.trans (hb5.mono hB0.size)⟩
set_option maxRecDepth 100000 in
set_option maxHeartbeats 2000000 in
theorem of_4 (p : Prg) (k : Nat) (n : Int) (ks : List Int) (w : World) (hp : p.Ok w) (hN : NodeAt p k 4 n ks) (hA : Asks p ks) :
    Calls Try.prog 37 #[.agg #[.int .i64 p.ps, .slice p.A p.vs.length p.c, .slice p.B p.xs.length p.e], .int .i64 k] w fun e w' => e = .returned (.int .i64 (ifso (0 < asz (vtyp p.vs n) ∧ ks.map (okind p.vs p.xs) = [0]) 0)) ∧ Below w.heap.size w w' := by
  obtain ⟨ad, hB1, -, -, -⟩ := hp.body k _ hN.node
  obtain ⟨ps, A, c, vs, B, e, xs⟩ := p
  simp only at hB1
  subst hB1
  have hB0 : Below w.heap.size w (w.alloc (.cells #[.int .i64 ps, .slice A vs.length c, .slice (some ad) xs.length e] 25)) := (Below.refl _ _).alloc (Nat.le_refl _) _
  have bX := Blk.new w 25 #[.int .i64 ps, .slice A vs.length c, .slice (some ad) xs.length e]
  have hgl : w.heap.size < (w.alloc (.cells #[.int .i64 ps, .slice A vs.length c, .slice (some ad) xs.length e] 25)).heap.size := bX.lt
  have HBX := Lib.hid (fun W (h : Below (w.alloc (.cells #[.int .i64 ps, .slice A vs.length c, .slice (some ad) xs.length e] 25)).heap.size (w.alloc (.cells #[.int .i64 ps, .slice A vs.length c, .slice (some ad) xs.length e] 25)) W) => (bX.below h hgl).three)
  have HX := Lib.hid (hp.at hB0)
  have hlx : xs.length ≤ 1000000 := hp.lx
  obtain ⟨E, hE⟩ := Int.eq_ofNat_of_zero_le hN.ends
  have hks := hN.kids
  simp only at hE hks
  have HE := Lib.hid (fun W (hW : Nodes W W.heap.size (some ad) xs) => ref_End_any (some ad) e xs (k : Int) W hW hlx)
  rw [hE] at HE
  have HK := Lib.hid (fun W (hW : Nodes W W.heap.size (some ad) xs) => (ref_Kids_any (some ad) e xs (k : Int) W hW hlx).mono (fun _ _ h => h.ints))
  rw [hks] at HK
  have HT := Lib.hid (fun W (hW : Prg.Ok ⟨ps, A, c, vs, some ad, e, xs⟩ W) => ref_typed_any ⟨ps, A, c, vs, some ad, e, xs⟩ n W hW)
  have hn : xs[k]? = some (4, n) := hN.node
  have HBD := Lib.hid (fun W (hW : Nodes W W.heap.size (some ad) xs) => show W.cell? (ad.add (k * 2)) = some (.int .i64 4) ∧ W.cell? ⟨(ad.add (k * 2)).block, (ad.add (k * 2)).off + 1, none⟩ = some (.int .i64 n) from by
    obtain ⟨_, q, -, q1, q2⟩ := hW k _ hn
    cases q
    exact ⟨q1, q2⟩)
  have i1 : (k : Int) < (xs.length : Int) := by have := (List.getElem?_eq_some_iff.1 hn).1; omega
  have i2 : (0 : Int) ≤ (k : Int) := by omega
  have i3 : ¬ (E : Int) < 0 := by omega
  have HAS := Lib.hid hA
  obtain ⟨t, ht⟩ : ∃ t, vtyp vs n = t := ⟨_, rfl⟩
  simp only [ht] at HT ⊢
  clear hN hA hn hE hks hp bX ht
  obtain ⟨b0, b1, b2⟩ := HBX.out _ (Below.refl _ _)
  have HKD := Lib.hid (fun b k W => ref_kind_any b k W)
  have HSZ := Lib.hid (fun W => ref_Size_any t W)
  obtain ⟨z, hz⟩ : ∃ z, asz t = z := ⟨_, rfl⟩
  rw [hz] at HSZ ⊢
  clear hz
  by_cases hz0 : 0 < z
  · have HF := Lib.hid (show ifso (0 < z ∧ ks.map (okind vs xs) = [0]) 0 = ifso (ks.map (okind vs xs) = [0]) 0 from ifso_iff ⟨fun h => h.2, fun h => ⟨hz0, h⟩⟩ _)
    have HALL := Lib.hid (fun W A1 c1 g (hW : (⟨ps, A, c, vs, some ad, e, xs⟩ : Prg).Ok W) (hR : IRow W W.heap.size A1 ks) (hg : Blk W g 3 #[.int .i64 0]) => show Calls Try.prog 49 #[.agg #[.int .i64 ps, .slice A vs.length c, .slice (some ad) xs.length e], .slice A1 ks.length c1, .slice (some ⟨g, 0, none⟩) 1 1] W _ from ref_all_any (⟨ps, A, c, vs, some ad, e, xs⟩ : Prg) (okind vs xs) A1 c1 ks (some ⟨g, 0, none⟩) 1 [0] W hW HAS.out.of hR (IRow.one g [0] hg hg.lt) (by have := HAS.out.len; omega) (by decide))
    obtain ⟨b, hb0⟩ : ∃ b, decide (ks.map (okind vs xs) = [0]) = b := ⟨_, rfl⟩
    rw [hb0] at HALL
    have HBB := Lib.hid hb0
    clear hb0
    go_enter Try.func37, Try.ntmps37
    go_wp2_with (first
      | (go_at_call 36; refine (HE.out _ HX.out.body).mono ?_; rintro e w2 ⟨rfl, hb2⟩; have hP2 := HX.out.at hb2; obtain ⟨a0, a1, a2⟩ := HBX.out _ hb2; obtain ⟨g0, g1⟩ := HBD.out _ hP2.body; have hn3 : Below w2.heap.size w2 (w2.alloc (.cells #[.int .i64 4, .int .i64 n] 39)) := (Below.refl _ _).alloc (Nat.le_refl _) _; have hb3 := hb2.trans (hn3.mono hb2.size); have bN := Blk.new w2 39 #[.int .i64 4, .int .i64 n]; have hnl := bN.lt; have hP3 := hP2.at hn3; obtain ⟨b0, b1, b2⟩ := HBX.out _ hb3)
      | (go_at_call 38; refine (HK.out _ hP3.body).mono ?_; rintro e w4 ⟨hb, A1, c1, rfl, hR4, -⟩; have hb4 := hb3.trans (hb.mono hb3.size); have bN4 := bN.below hb hnl; obtain ⟨n0, n1⟩ := bN4.two; have hnl4 := bN4.lt; have hP4 := hP3.at hb; obtain ⟨b0, b1, b2⟩ := HBX.out _ hb4)
      | (go_at_call 47; refine (HT.out _ hP4).mono ?_; rintro e w5 ⟨rfl, hb⟩; have hb5 := hb4.trans (hb.mono hb4.size); have bN5 := bN4.below hb hnl4; obtain ⟨n0, n1⟩ := bN5.two; have hP5 := hP4.at hb; have hR5 := hR4.at hb; obtain ⟨b0, b1, b2⟩ := HBX.out _ hb5)
      | (go_at_call 22; refine (HSZ.out _).mono ?_; rintro e w5 ⟨rfl, rfl⟩)
      | (go_at_call 49; have hn6 : Below w5.heap.size w5 (w5.alloc (.cells #[.int .i64 0] 3)) := (Below.refl _ _).alloc (Nat.le_refl _) _; refine (HALL.out _ _ _ _ (hP5.at hn6) (hR5.at hn6) (Blk.new w5 3 #[.int .i64 0])).mono ?_; rintro e w7 ⟨rfl, hb⟩; have hb7 := (hb5.trans (hn6.mono hb5.size)).trans (hb.mono (Nat.le_trans hb5.size hn6.size)))
      | (go_at_call 48; refine (HKD.out _ _ _).mono ?_; rintro e w8 ⟨rfl, rfl⟩))
    go_ret
    exact ⟨by rw [HF.out]; show Ending.returned (Value.int .i64 (ifso (b = true) 0)) = _; rw [← HBB.out, ifso_dec], hB0.trans (hb7.mono hB0.size)⟩
  · have HF := Lib.hid (show ifso (0 < z ∧ ks.map (okind vs xs) = [0]) 0 = -1 by unfold ifso; rw [if_neg (fun h => hz0 h.1)])
    go_enter Try.func37, Try.ntmps37
    go_wp2_with (first
      | (go_at_call 36; refine (HE.out _ HX.out.body).mono ?_; rintro e w2 ⟨rfl, hb2⟩; have hP2 := HX.out.at hb2; obtain ⟨a0, a1, a2⟩ := HBX.out _ hb2; obtain ⟨g0, g1⟩ := HBD.out _ hP2.body; have hn3 : Below w2.heap.size w2 (w2.alloc (.cells #[.int .i64 4, .int .i64 n] 39)) := (Below.refl _ _).alloc (Nat.le_refl _) _; have hb3 := hb2.trans (hn3.mono hb2.size); have bN := Blk.new w2 39 #[.int .i64 4, .int .i64 n]; have hnl := bN.lt; have hP3 := hP2.at hn3; obtain ⟨b0, b1, b2⟩ := HBX.out _ hb3)
      | (go_at_call 38; refine (HK.out _ hP3.body).mono ?_; rintro e w4 ⟨hb, A1, c1, rfl, hR4, -⟩; have hb4 := hb3.trans (hb.mono hb3.size); have bN4 := bN.below hb hnl; obtain ⟨n0, n1⟩ := bN4.two; have hnl4 := bN4.lt; have hP4 := hP3.at hb; obtain ⟨b0, b1, b2⟩ := HBX.out _ hb4)
      | (go_at_call 47; refine (HT.out _ hP4).mono ?_; rintro e w5 ⟨rfl, hb⟩; have hb5 := hb4.trans (hb.mono hb4.size); have bN5 := bN4.below hb hnl4; obtain ⟨n0, n1⟩ := bN5.two; have hP5 := hP4.at hb; have hR5 := hR4.at hb; obtain ⟨b0, b1, b2⟩ := HBX.out _ hb5)
      | (go_at_call 22; refine (HSZ.out _).mono ?_; rintro e w5 ⟨rfl, rfl⟩)
      | (go_at_call 48; refine (HKD.out _ _ _).mono ?_; rintro e w8 ⟨rfl, rfl⟩))
    go_ret
    exact ⟨by rw [HF.out]; rfl, hB0.trans (hb5.mono hB0.size)⟩
set_option maxRecDepth 100000 in
set_option maxHeartbeats 2000000 in
theorem of_5 (p : Prg) (k : Nat) (n : Int) (ks : List Int) (w : World) (hp : p.Ok w) (hN : NodeAt p k 5 n ks) (hA : Asks p ks) :
    Calls Try.prog 37 #[.agg #[.int .i64 p.ps, .slice p.A p.vs.length p.c, .slice p.B p.xs.length p.e], .int .i64 k] w fun e w' => e = .returned (.int .i64 (ifso (ks.map (okind p.vs p.xs) = [0]) 0)) ∧ Below w.heap.size w w' := by
  obtain ⟨ad, hB1, -, -, -⟩ := hp.body k _ hN.node
  obtain ⟨ps, A, c, vs, B, e, xs⟩ := p
  simp only at hB1
  subst hB1
  have hB0 : Below w.heap.size w (w.alloc (.cells #[.int .i64 ps, .slice A vs.length c, .slice (some ad) xs.length e] 25)) := (Below.refl _ _).alloc (Nat.le_refl _) _
  have bX := Blk.new w 25 #[.int .i64 ps, .slice A vs.length c, .slice (some ad) xs.length e]
  have hgl : w.heap.size < (w.alloc (.cells #[.int .i64 ps, .slice A vs.length c, .slice (some ad) xs.length e] 25)).heap.size := bX.lt
  have HBX := Lib.hid (fun W (h : Below (w.alloc (.cells #[.int .i64 ps, .slice A vs.length c, .slice (some ad) xs.length e] 25)).heap.size (w.alloc (.cells #[.int .i64 ps, .slice A vs.length c, .slice (some ad) xs.length e] 25)) W) => (bX.below h hgl).three)
  have HX := Lib.hid (hp.at hB0)
  have hlx : xs.length ≤ 1000000 := hp.lx
  obtain ⟨E, hE⟩ := Int.eq_ofNat_of_zero_le hN.ends
  have hks := hN.kids
  simp only at hE hks
  have HE := Lib.hid (fun W (hW : Nodes W W.heap.size (some ad) xs) => ref_End_any (some ad) e xs (k : Int) W hW hlx)
  rw [hE] at HE
  have HK := Lib.hid (fun W (hW : Nodes W W.heap.size (some ad) xs) => (ref_Kids_any (some ad) e xs (k : Int) W hW hlx).mono (fun _ _ h => h.ints))
  rw [hks] at HK
  have HT := Lib.hid (fun W (hW : Prg.Ok ⟨ps, A, c, vs, some ad, e, xs⟩ W) => ref_typed_any ⟨ps, A, c, vs, some ad, e, xs⟩ n W hW)
  have hn : xs[k]? = some (5, n) := hN.node
  have HBD := Lib.hid (fun W (hW : Nodes W W.heap.size (some ad) xs) => show W.cell? (ad.add (k * 2)) = some (.int .i64 5) ∧ W.cell? ⟨(ad.add (k * 2)).block, (ad.add (k * 2)).off + 1, none⟩ = some (.int .i64 n) from by
    obtain ⟨_, q, -, q1, q2⟩ := hW k _ hn
    cases q
    exact ⟨q1, q2⟩)
  have i1 : (k : Int) < (xs.length : Int) := by have := (List.getElem?_eq_some_iff.1 hn).1; omega
  have i2 : (0 : Int) ≤ (k : Int) := by omega
  have i3 : ¬ (E : Int) < 0 := by omega
  have HAS := Lib.hid hA
  obtain ⟨t, ht⟩ : ∃ t, vtyp vs n = t := ⟨_, rfl⟩
  simp only [ht] at HT
  clear hN hA hn hE hks hp bX ht
  obtain ⟨b0, b1, b2⟩ := HBX.out _ (Below.refl _ _)
  have HALL := Lib.hid (fun W A1 c1 g (hW : (⟨ps, A, c, vs, some ad, e, xs⟩ : Prg).Ok W) (hR : IRow W W.heap.size A1 ks) (hg : Blk W g 3 #[.int .i64 0]) => show Calls Try.prog 49 #[.agg #[.int .i64 ps, .slice A vs.length c, .slice (some ad) xs.length e], .slice A1 ks.length c1, .slice (some ⟨g, 0, none⟩) 1 1] W _ from ref_all_any (⟨ps, A, c, vs, some ad, e, xs⟩ : Prg) (okind vs xs) A1 c1 ks (some ⟨g, 0, none⟩) 1 [0] W hW HAS.out.of hR (IRow.one g [0] hg hg.lt) (by have := HAS.out.len; omega) (by decide))
  obtain ⟨b, hb0⟩ : ∃ b, decide (ks.map (okind vs xs) = [0]) = b := ⟨_, rfl⟩
  rw [hb0] at HALL
  have HBB := Lib.hid hb0
  clear hb0
  have HKD := Lib.hid (fun k W => ref_kind_any b k W)
  go_enter Try.func37, Try.ntmps37
  go_wp2_with (first
    | (go_at_call 36; refine (HE.out _ HX.out.body).mono ?_; rintro e w2 ⟨rfl, hb2⟩; have hP2 := HX.out.at hb2; obtain ⟨a0, a1, a2⟩ := HBX.out _ hb2; obtain ⟨g0, g1⟩ := HBD.out _ hP2.body; have hn3 : Below w2.heap.size w2 (w2.alloc (.cells #[.int .i64 5, .int .i64 n] 39)) := (Below.refl _ _).alloc (Nat.le_refl _) _; have hb3 := hb2.trans (hn3.mono hb2.size); have bN := Blk.new w2 39 #[.int .i64 5, .int .i64 n]; have hnl := bN.lt; have hP3 := hP2.at hn3; obtain ⟨b0, b1, b2⟩ := HBX.out _ hb3)
    | (go_at_call 38; refine (HK.out _ hP3.body).mono ?_; rintro e w4 ⟨hb, A1, c1, rfl, hR4, -⟩; have hb4 := hb3.trans (hb.mono hb3.size); have bN4 := bN.below hb hnl; obtain ⟨n0, n1⟩ := bN4.two; have hnl4 := bN4.lt; have hP4 := hP3.at hb; obtain ⟨b0, b1, b2⟩ := HBX.out _ hb4)
    | (go_at_call 47; refine (HT.out _ hP4).mono ?_; rintro e w5 ⟨rfl, hb⟩; have hb5 := hb4.trans (hb.mono hb4.size); have bN5 := bN4.below hb hnl4; obtain ⟨n0, n1⟩ := bN5.two; have hP5 := hP4.at hb; have hR5 := hR4.at hb; obtain ⟨b0, b1, b2⟩ := HBX.out _ hb5)
    | (go_at_call 49; have hn6 : Below w5.heap.size w5 (w5.alloc (.cells #[.int .i64 0] 3)) := (Below.refl _ _).alloc (Nat.le_refl _) _; refine (HALL.out _ _ _ _ (hP5.at hn6) (hR5.at hn6) (Blk.new w5 3 #[.int .i64 0])).mono ?_; rintro e w7 ⟨rfl, hb⟩; have hb7 := (hb5.trans (hn6.mono hb5.size)).trans (hb.mono (Nat.le_trans hb5.size hn6.size)))
    | (go_at_call 48; refine (HKD.out _ _).mono ?_; rintro e w8 ⟨rfl, rfl⟩))
  go_ret
  exact ⟨by show Ending.returned (Value.int .i64 (ifso (b = true) 0)) = _; rw [← HBB.out, ifso_dec], hB0.trans (hb7.mono hB0.size)⟩
set_option maxRecDepth 100000 in
set_option maxHeartbeats 2000000 in
theorem of_6 (p : Prg) (k : Nat) (n : Int) (ks : List Int) (w : World) (hp : p.Ok w) (hN : NodeAt p k 6 n ks) (hA : Asks p ks) :
    Calls Try.prog 37 #[.agg #[.int .i64 p.ps, .slice p.A p.vs.length p.c, .slice p.B p.xs.length p.e], .int .i64 k] w fun e w' => e = .returned (.int .i64 (ifso (ks.map (okind p.vs p.xs) = [1]) 1)) ∧ Below w.heap.size w w' := by
  obtain ⟨ad, hB1, -, -, -⟩ := hp.body k _ hN.node
  obtain ⟨ps, A, c, vs, B, e, xs⟩ := p
  simp only at hB1
  subst hB1
  have hB0 : Below w.heap.size w (w.alloc (.cells #[.int .i64 ps, .slice A vs.length c, .slice (some ad) xs.length e] 25)) := (Below.refl _ _).alloc (Nat.le_refl _) _
  have bX := Blk.new w 25 #[.int .i64 ps, .slice A vs.length c, .slice (some ad) xs.length e]
  have hgl : w.heap.size < (w.alloc (.cells #[.int .i64 ps, .slice A vs.length c, .slice (some ad) xs.length e] 25)).heap.size := bX.lt
  have HBX := Lib.hid (fun W (h : Below (w.alloc (.cells #[.int .i64 ps, .slice A vs.length c, .slice (some ad) xs.length e] 25)).heap.size (w.alloc (.cells #[.int .i64 ps, .slice A vs.length c, .slice (some ad) xs.length e] 25)) W) => (bX.below h hgl).three)
  have HX := Lib.hid (hp.at hB0)
  have hlx : xs.length ≤ 1000000 := hp.lx
  obtain ⟨E, hE⟩ := Int.eq_ofNat_of_zero_le hN.ends
  have hks := hN.kids
  simp only at hE hks
  have HE := Lib.hid (fun W (hW : Nodes W W.heap.size (some ad) xs) => ref_End_any (some ad) e xs (k : Int) W hW hlx)
  rw [hE] at HE
  have HK := Lib.hid (fun W (hW : Nodes W W.heap.size (some ad) xs) => (ref_Kids_any (some ad) e xs (k : Int) W hW hlx).mono (fun _ _ h => h.ints))
  rw [hks] at HK
  have HT := Lib.hid (fun W (hW : Prg.Ok ⟨ps, A, c, vs, some ad, e, xs⟩ W) => ref_typed_any ⟨ps, A, c, vs, some ad, e, xs⟩ n W hW)
  have hn : xs[k]? = some (6, n) := hN.node
  have HBD := Lib.hid (fun W (hW : Nodes W W.heap.size (some ad) xs) => show W.cell? (ad.add (k * 2)) = some (.int .i64 6) ∧ W.cell? ⟨(ad.add (k * 2)).block, (ad.add (k * 2)).off + 1, none⟩ = some (.int .i64 n) from by
    obtain ⟨_, q, -, q1, q2⟩ := hW k _ hn
    cases q
    exact ⟨q1, q2⟩)
  have i1 : (k : Int) < (xs.length : Int) := by have := (List.getElem?_eq_some_iff.1 hn).1; omega
  have i2 : (0 : Int) ≤ (k : Int) := by omega
  have i3 : ¬ (E : Int) < 0 := by omega
  have HAS := Lib.hid hA
  obtain ⟨t, ht⟩ : ∃ t, vtyp vs n = t := ⟨_, rfl⟩
  simp only [ht] at HT
  clear hN hA hn hE hks hp bX ht
  obtain ⟨b0, b1, b2⟩ := HBX.out _ (Below.refl _ _)
  have HALL := Lib.hid (fun W A1 c1 g (hW : (⟨ps, A, c, vs, some ad, e, xs⟩ : Prg).Ok W) (hR : IRow W W.heap.size A1 ks) (hg : Blk W g 3 #[.int .i64 1]) => show Calls Try.prog 49 #[.agg #[.int .i64 ps, .slice A vs.length c, .slice (some ad) xs.length e], .slice A1 ks.length c1, .slice (some ⟨g, 0, none⟩) 1 1] W _ from ref_all_any (⟨ps, A, c, vs, some ad, e, xs⟩ : Prg) (okind vs xs) A1 c1 ks (some ⟨g, 0, none⟩) 1 [1] W hW HAS.out.of hR (IRow.one g [1] hg hg.lt) (by have := HAS.out.len; omega) (by decide))
  obtain ⟨b, hb0⟩ : ∃ b, decide (ks.map (okind vs xs) = [1]) = b := ⟨_, rfl⟩
  rw [hb0] at HALL
  have HBB := Lib.hid hb0
  clear hb0
  have HKD := Lib.hid (fun k W => ref_kind_any b k W)
  go_enter Try.func37, Try.ntmps37
  go_wp2_with (first
    | (go_at_call 36; refine (HE.out _ HX.out.body).mono ?_; rintro e w2 ⟨rfl, hb2⟩; have hP2 := HX.out.at hb2; obtain ⟨a0, a1, a2⟩ := HBX.out _ hb2; obtain ⟨g0, g1⟩ := HBD.out _ hP2.body; have hn3 : Below w2.heap.size w2 (w2.alloc (.cells #[.int .i64 6, .int .i64 n] 39)) := (Below.refl _ _).alloc (Nat.le_refl _) _; have hb3 := hb2.trans (hn3.mono hb2.size); have bN := Blk.new w2 39 #[.int .i64 6, .int .i64 n]; have hnl := bN.lt; have hP3 := hP2.at hn3; obtain ⟨b0, b1, b2⟩ := HBX.out _ hb3)
    | (go_at_call 38; refine (HK.out _ hP3.body).mono ?_; rintro e w4 ⟨hb, A1, c1, rfl, hR4, -⟩; have hb4 := hb3.trans (hb.mono hb3.size); have bN4 := bN.below hb hnl; obtain ⟨n0, n1⟩ := bN4.two; have hnl4 := bN4.lt; have hP4 := hP3.at hb; obtain ⟨b0, b1, b2⟩ := HBX.out _ hb4)
    | (go_at_call 47; refine (HT.out _ hP4).mono ?_; rintro e w5 ⟨rfl, hb⟩; have hb5 := hb4.trans (hb.mono hb4.size); have bN5 := bN4.below hb hnl4; obtain ⟨n0, n1⟩ := bN5.two; have hP5 := hP4.at hb; have hR5 := hR4.at hb; obtain ⟨b0, b1, b2⟩ := HBX.out _ hb5)
    | (go_at_call 49; have hn6 : Below w5.heap.size w5 (w5.alloc (.cells #[.int .i64 1] 3)) := (Below.refl _ _).alloc (Nat.le_refl _) _; refine (HALL.out _ _ _ _ (hP5.at hn6) (hR5.at hn6) (Blk.new w5 3 #[.int .i64 1])).mono ?_; rintro e w7 ⟨rfl, hb⟩; have hb7 := (hb5.trans (hn6.mono hb5.size)).trans (hb.mono (Nat.le_trans hb5.size hn6.size)))
    | (go_at_call 48; refine (HKD.out _ _).mono ?_; rintro e w8 ⟨rfl, rfl⟩))
  go_ret
  exact ⟨by show Ending.returned (Value.int .i64 (ifso (b = true) 1)) = _; rw [← HBB.out, ifso_dec], hB0.trans (hb7.mono hB0.size)⟩
set_option maxRecDepth 100000 in
set_option maxHeartbeats 2000000 in
theorem of_7 (p : Prg) (k : Nat) (n : Int) (ks : List Int) (w : World) (hp : p.Ok w) (hN : NodeAt p k 7 n ks) (hA : Asks p ks) :
    Calls Try.prog 37 #[.agg #[.int .i64 p.ps, .slice p.A p.vs.length p.c, .slice p.B p.xs.length p.e], .int .i64 k] w fun e w' => e = .returned (.int .i64 (ifso (ks.map (okind p.vs p.xs) = [0, 0]) 0)) ∧ Below w.heap.size w w' := by
  obtain ⟨ad, hB1, -, -, -⟩ := hp.body k _ hN.node
  obtain ⟨ps, A, c, vs, B, e, xs⟩ := p
  simp only at hB1
  subst hB1
  have hB0 : Below w.heap.size w (w.alloc (.cells #[.int .i64 ps, .slice A vs.length c, .slice (some ad) xs.length e] 25)) := (Below.refl _ _).alloc (Nat.le_refl _) _
  have bX := Blk.new w 25 #[.int .i64 ps, .slice A vs.length c, .slice (some ad) xs.length e]
  have hgl : w.heap.size < (w.alloc (.cells #[.int .i64 ps, .slice A vs.length c, .slice (some ad) xs.length e] 25)).heap.size := bX.lt
  have HBX := Lib.hid (fun W (h : Below (w.alloc (.cells #[.int .i64 ps, .slice A vs.length c, .slice (some ad) xs.length e] 25)).heap.size (w.alloc (.cells #[.int .i64 ps, .slice A vs.length c, .slice (some ad) xs.length e] 25)) W) => (bX.below h hgl).three)
  have HX := Lib.hid (hp.at hB0)
  have hlx : xs.length ≤ 1000000 := hp.lx
  obtain ⟨E, hE⟩ := Int.eq_ofNat_of_zero_le hN.ends
  have hks := hN.kids
  simp only at hE hks
  have HE := Lib.hid (fun W (hW : Nodes W W.heap.size (some ad) xs) => ref_End_any (some ad) e xs (k : Int) W hW hlx)
  rw [hE] at HE
  have HK := Lib.hid (fun W (hW : Nodes W W.heap.size (some ad) xs) => (ref_Kids_any (some ad) e xs (k : Int) W hW hlx).mono (fun _ _ h => h.ints))
  rw [hks] at HK
  have HT := Lib.hid (fun W (hW : Prg.Ok ⟨ps, A, c, vs, some ad, e, xs⟩ W) => ref_typed_any ⟨ps, A, c, vs, some ad, e, xs⟩ n W hW)
  have hn : xs[k]? = some (7, n) := hN.node
  have HBD := Lib.hid (fun W (hW : Nodes W W.heap.size (some ad) xs) => show W.cell? (ad.add (k * 2)) = some (.int .i64 7) ∧ W.cell? ⟨(ad.add (k * 2)).block, (ad.add (k * 2)).off + 1, none⟩ = some (.int .i64 n) from by
    obtain ⟨_, q, -, q1, q2⟩ := hW k _ hn
    cases q
    exact ⟨q1, q2⟩)
  have i1 : (k : Int) < (xs.length : Int) := by have := (List.getElem?_eq_some_iff.1 hn).1; omega
  have i2 : (0 : Int) ≤ (k : Int) := by omega
  have i3 : ¬ (E : Int) < 0 := by omega
  have HAS := Lib.hid hA
  obtain ⟨t, ht⟩ : ∃ t, vtyp vs n = t := ⟨_, rfl⟩
  simp only [ht] at HT
  clear hN hA hn hE hks hp bX ht
  obtain ⟨b0, b1, b2⟩ := HBX.out _ (Below.refl _ _)
  have HALL := Lib.hid (fun W A1 c1 g (hW : (⟨ps, A, c, vs, some ad, e, xs⟩ : Prg).Ok W) (hR : IRow W W.heap.size A1 ks) (hg : Blk W g 3 #[.int .i64 0, .int .i64 0]) => show Calls Try.prog 49 #[.agg #[.int .i64 ps, .slice A vs.length c, .slice (some ad) xs.length e], .slice A1 ks.length c1, .slice (some ⟨g, 0, none⟩) 2 2] W _ from ref_all_any (⟨ps, A, c, vs, some ad, e, xs⟩ : Prg) (okind vs xs) A1 c1 ks (some ⟨g, 0, none⟩) 2 [0, 0] W hW HAS.out.of hR (IRow.one g [0, 0] hg hg.lt) (by have := HAS.out.len; omega) (by decide))
  obtain ⟨b, hb0⟩ : ∃ b, decide (ks.map (okind vs xs) = [0, 0]) = b := ⟨_, rfl⟩
  rw [hb0] at HALL
  have HBB := Lib.hid hb0
  clear hb0
  have HKD := Lib.hid (fun k W => ref_kind_any b k W)
  go_enter Try.func37, Try.ntmps37
  go_wp2_with (first
    | (go_at_call 36; refine (HE.out _ HX.out.body).mono ?_; rintro e w2 ⟨rfl, hb2⟩; have hP2 := HX.out.at hb2; obtain ⟨a0, a1, a2⟩ := HBX.out _ hb2; obtain ⟨g0, g1⟩ := HBD.out _ hP2.body; have hn3 : Below w2.heap.size w2 (w2.alloc (.cells #[.int .i64 7, .int .i64 n] 39)) := (Below.refl _ _).alloc (Nat.le_refl _) _; have hb3 := hb2.trans (hn3.mono hb2.size); have bN := Blk.new w2 39 #[.int .i64 7, .int .i64 n]; have hnl := bN.lt; have hP3 := hP2.at hn3; obtain ⟨b0, b1, b2⟩ := HBX.out _ hb3)
    | (go_at_call 38; refine (HK.out _ hP3.body).mono ?_; rintro e w4 ⟨hb, A1, c1, rfl, hR4, -⟩; have hb4 := hb3.trans (hb.mono hb3.size); have bN4 := bN.below hb hnl; obtain ⟨n0, n1⟩ := bN4.two; have hnl4 := bN4.lt; have hP4 := hP3.at hb; obtain ⟨b0, b1, b2⟩ := HBX.out _ hb4)
    | (go_at_call 47; refine (HT.out _ hP4).mono ?_; rintro e w5 ⟨rfl, hb⟩; have hb5 := hb4.trans (hb.mono hb4.size); have bN5 := bN4.below hb hnl4; obtain ⟨n0, n1⟩ := bN5.two; have hP5 := hP4.at hb; have hR5 := hR4.at hb; obtain ⟨b0, b1, b2⟩ := HBX.out _ hb5)
    | (go_at_call 49; have hn6 : Below w5.heap.size w5 (w5.alloc (.cells #[.int .i64 0, .int .i64 0] 3)) := (Below.refl _ _).alloc (Nat.le_refl _) _; refine (HALL.out _ _ _ _ (hP5.at hn6) (hR5.at hn6) (Blk.new w5 3 #[.int .i64 0, .int .i64 0])).mono ?_; rintro e w7 ⟨rfl, hb⟩; have hb7 := (hb5.trans (hn6.mono hb5.size)).trans (hb.mono (Nat.le_trans hb5.size hn6.size)))
    | (go_at_call 48; refine (HKD.out _ _).mono ?_; rintro e w8 ⟨rfl, rfl⟩))
  go_ret
  exact ⟨by show Ending.returned (Value.int .i64 (ifso (b = true) 0)) = _; rw [← HBB.out, ifso_dec], hB0.trans (hb7.mono hB0.size)⟩
set_option maxRecDepth 100000 in
set_option maxHeartbeats 2000000 in
theorem of_8 (p : Prg) (k : Nat) (n : Int) (ks : List Int) (w : World) (hp : p.Ok w) (hN : NodeAt p k 8 n ks) (hA : Asks p ks) :
    Calls Try.prog 37 #[.agg #[.int .i64 p.ps, .slice p.A p.vs.length p.c, .slice p.B p.xs.length p.e], .int .i64 k] w fun e w' => e = .returned (.int .i64 (ifso (ks.map (okind p.vs p.xs) = [0, 0]) 0)) ∧ Below w.heap.size w w' := by
  obtain ⟨ad, hB1, -, -, -⟩ := hp.body k _ hN.node
  obtain ⟨ps, A, c, vs, B, e, xs⟩ := p
  simp only at hB1
  subst hB1
  have hB0 : Below w.heap.size w (w.alloc (.cells #[.int .i64 ps, .slice A vs.length c, .slice (some ad) xs.length e] 25)) := (Below.refl _ _).alloc (Nat.le_refl _) _
  have bX := Blk.new w 25 #[.int .i64 ps, .slice A vs.length c, .slice (some ad) xs.length e]
  have hgl : w.heap.size < (w.alloc (.cells #[.int .i64 ps, .slice A vs.length c, .slice (some ad) xs.length e] 25)).heap.size := bX.lt
  have HBX := Lib.hid (fun W (h : Below (w.alloc (.cells #[.int .i64 ps, .slice A vs.length c, .slice (some ad) xs.length e] 25)).heap.size (w.alloc (.cells #[.int .i64 ps, .slice A vs.length c, .slice (some ad) xs.length e] 25)) W) => (bX.below h hgl).three)
  have HX := Lib.hid (hp.at hB0)
  have hlx : xs.length ≤ 1000000 := hp.lx
  obtain ⟨E, hE⟩ := Int.eq_ofNat_of_zero_le hN.ends
  have hks := hN.kids
  simp only at hE hks
  have HE := Lib.hid (fun W (hW : Nodes W W.heap.size (some ad) xs) => ref_End_any (some ad) e xs (k : Int) W hW hlx)
  rw [hE] at HE
  have HK := Lib.hid (fun W (hW : Nodes W W.heap.size (some ad) xs) => (ref_Kids_any (some ad) e xs (k : Int) W hW hlx).mono (fun _ _ h => h.ints))
  rw [hks] at HK
  have HT := Lib.hid (fun W (hW : Prg.Ok ⟨ps, A, c, vs, some ad, e, xs⟩ W) => ref_typed_any ⟨ps, A, c, vs, some ad, e, xs⟩ n W hW)
  have hn : xs[k]? = some (8, n) := hN.node
  have HBD := Lib.hid (fun W (hW : Nodes W W.heap.size (some ad) xs) => show W.cell? (ad.add (k * 2)) = some (.int .i64 8) ∧ W.cell? ⟨(ad.add (k * 2)).block, (ad.add (k * 2)).off + 1, none⟩ = some (.int .i64 n) from by
    obtain ⟨_, q, -, q1, q2⟩ := hW k _ hn
    cases q
    exact ⟨q1, q2⟩)
  have i1 : (k : Int) < (xs.length : Int) := by have := (List.getElem?_eq_some_iff.1 hn).1; omega
  have i2 : (0 : Int) ≤ (k : Int) := by omega
  have i3 : ¬ (E : Int) < 0 := by omega
  have HAS := Lib.hid hA
  obtain ⟨t, ht⟩ : ∃ t, vtyp vs n = t := ⟨_, rfl⟩
  simp only [ht] at HT
  clear hN hA hn hE hks hp bX ht
  obtain ⟨b0, b1, b2⟩ := HBX.out _ (Below.refl _ _)
  have HALL := Lib.hid (fun W A1 c1 g (hW : (⟨ps, A, c, vs, some ad, e, xs⟩ : Prg).Ok W) (hR : IRow W W.heap.size A1 ks) (hg : Blk W g 3 #[.int .i64 0, .int .i64 0]) => show Calls Try.prog 49 #[.agg #[.int .i64 ps, .slice A vs.length c, .slice (some ad) xs.length e], .slice A1 ks.length c1, .slice (some ⟨g, 0, none⟩) 2 2] W _ from ref_all_any (⟨ps, A, c, vs, some ad, e, xs⟩ : Prg) (okind vs xs) A1 c1 ks (some ⟨g, 0, none⟩) 2 [0, 0] W hW HAS.out.of hR (IRow.one g [0, 0] hg hg.lt) (by have := HAS.out.len; omega) (by decide))
  obtain ⟨b, hb0⟩ : ∃ b, decide (ks.map (okind vs xs) = [0, 0]) = b := ⟨_, rfl⟩
  rw [hb0] at HALL
  have HBB := Lib.hid hb0
  clear hb0
  have HKD := Lib.hid (fun k W => ref_kind_any b k W)
  go_enter Try.func37, Try.ntmps37
  go_wp2_with (first
    | (go_at_call 36; refine (HE.out _ HX.out.body).mono ?_; rintro e w2 ⟨rfl, hb2⟩; have hP2 := HX.out.at hb2; obtain ⟨a0, a1, a2⟩ := HBX.out _ hb2; obtain ⟨g0, g1⟩ := HBD.out _ hP2.body; have hn3 : Below w2.heap.size w2 (w2.alloc (.cells #[.int .i64 8, .int .i64 n] 39)) := (Below.refl _ _).alloc (Nat.le_refl _) _; have hb3 := hb2.trans (hn3.mono hb2.size); have bN := Blk.new w2 39 #[.int .i64 8, .int .i64 n]; have hnl := bN.lt; have hP3 := hP2.at hn3; obtain ⟨b0, b1, b2⟩ := HBX.out _ hb3)
    | (go_at_call 38; refine (HK.out _ hP3.body).mono ?_; rintro e w4 ⟨hb, A1, c1, rfl, hR4, -⟩; have hb4 := hb3.trans (hb.mono hb3.size); have bN4 := bN.below hb hnl; obtain ⟨n0, n1⟩ := bN4.two; have hnl4 := bN4.lt; have hP4 := hP3.at hb; obtain ⟨b0, b1, b2⟩ := HBX.out _ hb4)
    | (go_at_call 47; refine (HT.out _ hP4).mono ?_; rintro e w5 ⟨rfl, hb⟩; have hb5 := hb4.trans (hb.mono hb4.size); have bN5 := bN4.below hb hnl4; obtain ⟨n0, n1⟩ := bN5.two; have hP5 := hP4.at hb; have hR5 := hR4.at hb; obtain ⟨b0, b1, b2⟩ := HBX.out _ hb5)
    | (go_at_call 49; have hn6 : Below w5.heap.size w5 (w5.alloc (.cells #[.int .i64 0, .int .i64 0] 3)) := (Below.refl _ _).alloc (Nat.le_refl _) _; refine (HALL.out _ _ _ _ (hP5.at hn6) (hR5.at hn6) (Blk.new w5 3 #[.int .i64 0, .int .i64 0])).mono ?_; rintro e w7 ⟨rfl, hb⟩; have hb7 := (hb5.trans (hn6.mono hb5.size)).trans (hb.mono (Nat.le_trans hb5.size hn6.size)))
    | (go_at_call 48; refine (HKD.out _ _).mono ?_; rintro e w8 ⟨rfl, rfl⟩))
  go_ret
  exact ⟨by show Ending.returned (Value.int .i64 (ifso (b = true) 0)) = _; rw [← HBB.out, ifso_dec], hB0.trans (hb7.mono hB0.size)⟩
set_option maxRecDepth 100000 in
set_option maxHeartbeats 2000000 in
theorem of_9 (p : Prg) (k : Nat) (n : Int) (ks : List Int) (w : World) (hp : p.Ok w) (hN : NodeAt p k 9 n ks) (hA : Asks p ks) :
    Calls Try.prog 37 #[.agg #[.int .i64 p.ps, .slice p.A p.vs.length p.c, .slice p.B p.xs.length p.e], .int .i64 k] w fun e w' => e = .returned (.int .i64 (ifso (ks.map (okind p.vs p.xs) = [0, 0]) 0)) ∧ Below w.heap.size w w' := by
  obtain ⟨ad, hB1, -, -, -⟩ := hp.body k _ hN.node
  obtain ⟨ps, A, c, vs, B, e, xs⟩ := p
  simp only at hB1
  subst hB1
  have hB0 : Below w.heap.size w (w.alloc (.cells #[.int .i64 ps, .slice A vs.length c, .slice (some ad) xs.length e] 25)) := (Below.refl _ _).alloc (Nat.le_refl _) _
  have bX := Blk.new w 25 #[.int .i64 ps, .slice A vs.length c, .slice (some ad) xs.length e]
  have hgl : w.heap.size < (w.alloc (.cells #[.int .i64 ps, .slice A vs.length c, .slice (some ad) xs.length e] 25)).heap.size := bX.lt
  have HBX := Lib.hid (fun W (h : Below (w.alloc (.cells #[.int .i64 ps, .slice A vs.length c, .slice (some ad) xs.length e] 25)).heap.size (w.alloc (.cells #[.int .i64 ps, .slice A vs.length c, .slice (some ad) xs.length e] 25)) W) => (bX.below h hgl).three)
  have HX := Lib.hid (hp.at hB0)
  have hlx : xs.length ≤ 1000000 := hp.lx
  obtain ⟨E, hE⟩ := Int.eq_ofNat_of_zero_le hN.ends
  have hks := hN.kids
  simp only at hE hks
  have HE := Lib.hid (fun W (hW : Nodes W W.heap.size (some ad) xs) => ref_End_any (some ad) e xs (k : Int) W hW hlx)
  rw [hE] at HE
  have HK := Lib.hid (fun W (hW : Nodes W W.heap.size (some ad) xs) => (ref_Kids_any (some ad) e xs (k : Int) W hW hlx).mono (fun _ _ h => h.ints))
  rw [hks] at HK
  have HT := Lib.hid (fun W (hW : Prg.Ok ⟨ps, A, c, vs, some ad, e, xs⟩ W) => ref_typed_any ⟨ps, A, c, vs, some ad, e, xs⟩ n W hW)
  have hn : xs[k]? = some (9, n) := hN.node
  have HBD := Lib.hid (fun W (hW : Nodes W W.heap.size (some ad) xs) => show W.cell? (ad.add (k * 2)) = some (.int .i64 9) ∧ W.cell? ⟨(ad.add (k * 2)).block, (ad.add (k * 2)).off + 1, none⟩ = some (.int .i64 n) from by
    obtain ⟨_, q, -, q1, q2⟩ := hW k _ hn
    cases q
    exact ⟨q1, q2⟩)
  have i1 : (k : Int) < (xs.length : Int) := by have := (List.getElem?_eq_some_iff.1 hn).1; omega
  have i2 : (0 : Int) ≤ (k : Int) := by omega
  have i3 : ¬ (E : Int) < 0 := by omega
  have HAS := Lib.hid hA
  obtain ⟨t, ht⟩ : ∃ t, vtyp vs n = t := ⟨_, rfl⟩
  simp only [ht] at HT
  clear hN hA hn hE hks hp bX ht
  obtain ⟨b0, b1, b2⟩ := HBX.out _ (Below.refl _ _)
  have HALL := Lib.hid (fun W A1 c1 g (hW : (⟨ps, A, c, vs, some ad, e, xs⟩ : Prg).Ok W) (hR : IRow W W.heap.size A1 ks) (hg : Blk W g 3 #[.int .i64 0, .int .i64 0]) => show Calls Try.prog 49 #[.agg #[.int .i64 ps, .slice A vs.length c, .slice (some ad) xs.length e], .slice A1 ks.length c1, .slice (some ⟨g, 0, none⟩) 2 2] W _ from ref_all_any (⟨ps, A, c, vs, some ad, e, xs⟩ : Prg) (okind vs xs) A1 c1 ks (some ⟨g, 0, none⟩) 2 [0, 0] W hW HAS.out.of hR (IRow.one g [0, 0] hg hg.lt) (by have := HAS.out.len; omega) (by decide))
  obtain ⟨b, hb0⟩ : ∃ b, decide (ks.map (okind vs xs) = [0, 0]) = b := ⟨_, rfl⟩
  rw [hb0] at HALL
  have HBB := Lib.hid hb0
  clear hb0
  have HKD := Lib.hid (fun k W => ref_kind_any b k W)
  go_enter Try.func37, Try.ntmps37
  go_wp2_with (first
    | (go_at_call 36; refine (HE.out _ HX.out.body).mono ?_; rintro e w2 ⟨rfl, hb2⟩; have hP2 := HX.out.at hb2; obtain ⟨a0, a1, a2⟩ := HBX.out _ hb2; obtain ⟨g0, g1⟩ := HBD.out _ hP2.body; have hn3 : Below w2.heap.size w2 (w2.alloc (.cells #[.int .i64 9, .int .i64 n] 39)) := (Below.refl _ _).alloc (Nat.le_refl _) _; have hb3 := hb2.trans (hn3.mono hb2.size); have bN := Blk.new w2 39 #[.int .i64 9, .int .i64 n]; have hnl := bN.lt; have hP3 := hP2.at hn3; obtain ⟨b0, b1, b2⟩ := HBX.out _ hb3)
    | (go_at_call 38; refine (HK.out _ hP3.body).mono ?_; rintro e w4 ⟨hb, A1, c1, rfl, hR4, -⟩; have hb4 := hb3.trans (hb.mono hb3.size); have bN4 := bN.below hb hnl; obtain ⟨n0, n1⟩ := bN4.two; have hnl4 := bN4.lt; have hP4 := hP3.at hb; obtain ⟨b0, b1, b2⟩ := HBX.out _ hb4)
    | (go_at_call 47; refine (HT.out _ hP4).mono ?_; rintro e w5 ⟨rfl, hb⟩; have hb5 := hb4.trans (hb.mono hb4.size); have bN5 := bN4.below hb hnl4; obtain ⟨n0, n1⟩ := bN5.two; have hP5 := hP4.at hb; have hR5 := hR4.at hb; obtain ⟨b0, b1, b2⟩ := HBX.out _ hb5)
    | (go_at_call 49; have hn6 : Below w5.heap.size w5 (w5.alloc (.cells #[.int .i64 0, .int .i64 0] 3)) := (Below.refl _ _).alloc (Nat.le_refl _) _; refine (HALL.out _ _ _ _ (hP5.at hn6) (hR5.at hn6) (Blk.new w5 3 #[.int .i64 0, .int .i64 0])).mono ?_; rintro e w7 ⟨rfl, hb⟩; have hb7 := (hb5.trans (hn6.mono hb5.size)).trans (hb.mono (Nat.le_trans hb5.size hn6.size)))
    | (go_at_call 48; refine (HKD.out _ _).mono ?_; rintro e w8 ⟨rfl, rfl⟩))
  go_ret
  exact ⟨by show Ending.returned (Value.int .i64 (ifso (b = true) 0)) = _; rw [← HBB.out, ifso_dec], hB0.trans (hb7.mono hB0.size)⟩
set_option maxRecDepth 100000 in
set_option maxHeartbeats 2000000 in
theorem of_10 (p : Prg) (k : Nat) (n : Int) (ks : List Int) (w : World) (hp : p.Ok w) (hN : NodeAt p k 10 n ks) (hA : Asks p ks) :
    Calls Try.prog 37 #[.agg #[.int .i64 p.ps, .slice p.A p.vs.length p.c, .slice p.B p.xs.length p.e], .int .i64 k] w fun e w' => e = .returned (.int .i64 (ifso (ks.map (okind p.vs p.xs) = [0, 0]) 0)) ∧ Below w.heap.size w w' := by
  obtain ⟨ad, hB1, -, -, -⟩ := hp.body k _ hN.node
  obtain ⟨ps, A, c, vs, B, e, xs⟩ := p
  simp only at hB1
  subst hB1
  have hB0 : Below w.heap.size w (w.alloc (.cells #[.int .i64 ps, .slice A vs.length c, .slice (some ad) xs.length e] 25)) := (Below.refl _ _).alloc (Nat.le_refl _) _
  have bX := Blk.new w 25 #[.int .i64 ps, .slice A vs.length c, .slice (some ad) xs.length e]
  have hgl : w.heap.size < (w.alloc (.cells #[.int .i64 ps, .slice A vs.length c, .slice (some ad) xs.length e] 25)).heap.size := bX.lt
  have HBX := Lib.hid (fun W (h : Below (w.alloc (.cells #[.int .i64 ps, .slice A vs.length c, .slice (some ad) xs.length e] 25)).heap.size (w.alloc (.cells #[.int .i64 ps, .slice A vs.length c, .slice (some ad) xs.length e] 25)) W) => (bX.below h hgl).three)
  have HX := Lib.hid (hp.at hB0)
  have hlx : xs.length ≤ 1000000 := hp.lx
  obtain ⟨E, hE⟩ := Int.eq_ofNat_of_zero_le hN.ends
  have hks := hN.kids
  simp only at hE hks
  have HE := Lib.hid (fun W (hW : Nodes W W.heap.size (some ad) xs) => ref_End_any (some ad) e xs (k : Int) W hW hlx)
  rw [hE] at HE
  have HK := Lib.hid (fun W (hW : Nodes W W.heap.size (some ad) xs) => (ref_Kids_any (some ad) e xs (k : Int) W hW hlx).mono (fun _ _ h => h.ints))
  rw [hks] at HK
  have HT := Lib.hid (fun W (hW : Prg.Ok ⟨ps, A, c, vs, some ad, e, xs⟩ W) => ref_typed_any ⟨ps, A, c, vs, some ad, e, xs⟩ n W hW)
  have hn : xs[k]? = some (10, n) := hN.node
  have HBD := Lib.hid (fun W (hW : Nodes W W.heap.size (some ad) xs) => show W.cell? (ad.add (k * 2)) = some (.int .i64 10) ∧ W.cell? ⟨(ad.add (k * 2)).block, (ad.add (k * 2)).off + 1, none⟩ = some (.int .i64 n) from by
    obtain ⟨_, q, -, q1, q2⟩ := hW k _ hn
    cases q
    exact ⟨q1, q2⟩)
  have i1 : (k : Int) < (xs.length : Int) := by have := (List.getElem?_eq_some_iff.1 hn).1; omega
  have i2 : (0 : Int) ≤ (k : Int) := by omega
  have i3 : ¬ (E : Int) < 0 := by omega
  have HAS := Lib.hid hA
  obtain ⟨t, ht⟩ : ∃ t, vtyp vs n = t := ⟨_, rfl⟩
  simp only [ht] at HT
  clear hN hA hn hE hks hp bX ht
  obtain ⟨b0, b1, b2⟩ := HBX.out _ (Below.refl _ _)
  have HALL := Lib.hid (fun W A1 c1 g (hW : (⟨ps, A, c, vs, some ad, e, xs⟩ : Prg).Ok W) (hR : IRow W W.heap.size A1 ks) (hg : Blk W g 3 #[.int .i64 0, .int .i64 0]) => show Calls Try.prog 49 #[.agg #[.int .i64 ps, .slice A vs.length c, .slice (some ad) xs.length e], .slice A1 ks.length c1, .slice (some ⟨g, 0, none⟩) 2 2] W _ from ref_all_any (⟨ps, A, c, vs, some ad, e, xs⟩ : Prg) (okind vs xs) A1 c1 ks (some ⟨g, 0, none⟩) 2 [0, 0] W hW HAS.out.of hR (IRow.one g [0, 0] hg hg.lt) (by have := HAS.out.len; omega) (by decide))
  obtain ⟨b, hb0⟩ : ∃ b, decide (ks.map (okind vs xs) = [0, 0]) = b := ⟨_, rfl⟩
  rw [hb0] at HALL
  have HBB := Lib.hid hb0
  clear hb0
  have HKD := Lib.hid (fun k W => ref_kind_any b k W)
  go_enter Try.func37, Try.ntmps37
  go_wp2_with (first
    | (go_at_call 36; refine (HE.out _ HX.out.body).mono ?_; rintro e w2 ⟨rfl, hb2⟩; have hP2 := HX.out.at hb2; obtain ⟨a0, a1, a2⟩ := HBX.out _ hb2; obtain ⟨g0, g1⟩ := HBD.out _ hP2.body; have hn3 : Below w2.heap.size w2 (w2.alloc (.cells #[.int .i64 10, .int .i64 n] 39)) := (Below.refl _ _).alloc (Nat.le_refl _) _; have hb3 := hb2.trans (hn3.mono hb2.size); have bN := Blk.new w2 39 #[.int .i64 10, .int .i64 n]; have hnl := bN.lt; have hP3 := hP2.at hn3; obtain ⟨b0, b1, b2⟩ := HBX.out _ hb3)
    | (go_at_call 38; refine (HK.out _ hP3.body).mono ?_; rintro e w4 ⟨hb, A1, c1, rfl, hR4, -⟩; have hb4 := hb3.trans (hb.mono hb3.size); have bN4 := bN.below hb hnl; obtain ⟨n0, n1⟩ := bN4.two; have hnl4 := bN4.lt; have hP4 := hP3.at hb; obtain ⟨b0, b1, b2⟩ := HBX.out _ hb4)
    | (go_at_call 47; refine (HT.out _ hP4).mono ?_; rintro e w5 ⟨rfl, hb⟩; have hb5 := hb4.trans (hb.mono hb4.size); have bN5 := bN4.below hb hnl4; obtain ⟨n0, n1⟩ := bN5.two; have hP5 := hP4.at hb; have hR5 := hR4.at hb; obtain ⟨b0, b1, b2⟩ := HBX.out _ hb5)
    | (go_at_call 49; have hn6 : Below w5.heap.size w5 (w5.alloc (.cells #[.int .i64 0, .int .i64 0] 3)) := (Below.refl _ _).alloc (Nat.le_refl _) _; refine (HALL.out _ _ _ _ (hP5.at hn6) (hR5.at hn6) (Blk.new w5 3 #[.int .i64 0, .int .i64 0])).mono ?_; rintro e w7 ⟨rfl, hb⟩; have hb7 := (hb5.trans (hn6.mono hb5.size)).trans (hb.mono (Nat.le_trans hb5.size hn6.size)))
    | (go_at_call 48; refine (HKD.out _ _).mono ?_; rintro e w8 ⟨rfl, rfl⟩))
  go_ret
  exact ⟨by show Ending.returned (Value.int .i64 (ifso (b = true) 0)) = _; rw [← HBB.out, ifso_dec], hB0.trans (hb7.mono hB0.size)⟩
set_option maxRecDepth 100000 in
set_option maxHeartbeats 2000000 in
theorem of_11 (p : Prg) (k : Nat) (n : Int) (ks : List Int) (w : World) (hp : p.Ok w) (hN : NodeAt p k 11 n ks) (hA : Asks p ks) :
    Calls Try.prog 37 #[.agg #[.int .i64 p.ps, .slice p.A p.vs.length p.c, .slice p.B p.xs.length p.e], .int .i64 k] w fun e w' => e = .returned (.int .i64 (ifso (ks.map (okind p.vs p.xs) = [0, 0]) 0)) ∧ Below w.heap.size w w' := by
  obtain ⟨ad, hB1, -, -, -⟩ := hp.body k _ hN.node
  obtain ⟨ps, A, c, vs, B, e, xs⟩ := p
  simp only at hB1
  subst hB1
  have hB0 : Below w.heap.size w (w.alloc (.cells #[.int .i64 ps, .slice A vs.length c, .slice (some ad) xs.length e] 25)) := (Below.refl _ _).alloc (Nat.le_refl _) _
  have bX := Blk.new w 25 #[.int .i64 ps, .slice A vs.length c, .slice (some ad) xs.length e]
  have hgl : w.heap.size < (w.alloc (.cells #[.int .i64 ps, .slice A vs.length c, .slice (some ad) xs.length e] 25)).heap.size := bX.lt
  have HBX := Lib.hid (fun W (h : Below (w.alloc (.cells #[.int .i64 ps, .slice A vs.length c, .slice (some ad) xs.length e] 25)).heap.size (w.alloc (.cells #[.int .i64 ps, .slice A vs.length c, .slice (some ad) xs.length e] 25)) W) => (bX.below h hgl).three)
  have HX := Lib.hid (hp.at hB0)
  have hlx : xs.length ≤ 1000000 := hp.lx
  obtain ⟨E, hE⟩ := Int.eq_ofNat_of_zero_le hN.ends
  have hks := hN.kids
  simp only at hE hks
  have HE := Lib.hid (fun W (hW : Nodes W W.heap.size (some ad) xs) => ref_End_any (some ad) e xs (k : Int) W hW hlx)
  rw [hE] at HE
  have HK := Lib.hid (fun W (hW : Nodes W W.heap.size (some ad) xs) => (ref_Kids_any (some ad) e xs (k : Int) W hW hlx).mono (fun _ _ h => h.ints))
  rw [hks] at HK
  have HT := Lib.hid (fun W (hW : Prg.Ok ⟨ps, A, c, vs, some ad, e, xs⟩ W) => ref_typed_any ⟨ps, A, c, vs, some ad, e, xs⟩ n W hW)
  have hn : xs[k]? = some (11, n) := hN.node
  have HBD := Lib.hid (fun W (hW : Nodes W W.heap.size (some ad) xs) => show W.cell? (ad.add (k * 2)) = some (.int .i64 11) ∧ W.cell? ⟨(ad.add (k * 2)).block, (ad.add (k * 2)).off + 1, none⟩ = some (.int .i64 n) from by
    obtain ⟨_, q, -, q1, q2⟩ := hW k _ hn
    cases q
    exact ⟨q1, q2⟩)
  have i1 : (k : Int) < (xs.length : Int) := by have := (List.getElem?_eq_some_iff.1 hn).1; omega
  have i2 : (0 : Int) ≤ (k : Int) := by omega
  have i3 : ¬ (E : Int) < 0 := by omega
  have HAS := Lib.hid hA
  obtain ⟨t, ht⟩ : ∃ t, vtyp vs n = t := ⟨_, rfl⟩
  simp only [ht] at HT
  clear hN hA hn hE hks hp bX ht
  obtain ⟨b0, b1, b2⟩ := HBX.out _ (Below.refl _ _)
  have HALL := Lib.hid (fun W A1 c1 g (hW : (⟨ps, A, c, vs, some ad, e, xs⟩ : Prg).Ok W) (hR : IRow W W.heap.size A1 ks) (hg : Blk W g 3 #[.int .i64 0, .int .i64 0]) => show Calls Try.prog 49 #[.agg #[.int .i64 ps, .slice A vs.length c, .slice (some ad) xs.length e], .slice A1 ks.length c1, .slice (some ⟨g, 0, none⟩) 2 2] W _ from ref_all_any (⟨ps, A, c, vs, some ad, e, xs⟩ : Prg) (okind vs xs) A1 c1 ks (some ⟨g, 0, none⟩) 2 [0, 0] W hW HAS.out.of hR (IRow.one g [0, 0] hg hg.lt) (by have := HAS.out.len; omega) (by decide))
  obtain ⟨b, hb0⟩ : ∃ b, decide (ks.map (okind vs xs) = [0, 0]) = b := ⟨_, rfl⟩
  rw [hb0] at HALL
  have HBB := Lib.hid hb0
  clear hb0
  have HKD := Lib.hid (fun k W => ref_kind_any b k W)
  go_enter Try.func37, Try.ntmps37
  go_wp2_with (first
    | (go_at_call 36; refine (HE.out _ HX.out.body).mono ?_; rintro e w2 ⟨rfl, hb2⟩; have hP2 := HX.out.at hb2; obtain ⟨a0, a1, a2⟩ := HBX.out _ hb2; obtain ⟨g0, g1⟩ := HBD.out _ hP2.body; have hn3 : Below w2.heap.size w2 (w2.alloc (.cells #[.int .i64 11, .int .i64 n] 39)) := (Below.refl _ _).alloc (Nat.le_refl _) _; have hb3 := hb2.trans (hn3.mono hb2.size); have bN := Blk.new w2 39 #[.int .i64 11, .int .i64 n]; have hnl := bN.lt; have hP3 := hP2.at hn3; obtain ⟨b0, b1, b2⟩ := HBX.out _ hb3)
    | (go_at_call 38; refine (HK.out _ hP3.body).mono ?_; rintro e w4 ⟨hb, A1, c1, rfl, hR4, -⟩; have hb4 := hb3.trans (hb.mono hb3.size); have bN4 := bN.below hb hnl; obtain ⟨n0, n1⟩ := bN4.two; have hnl4 := bN4.lt; have hP4 := hP3.at hb; obtain ⟨b0, b1, b2⟩ := HBX.out _ hb4)
    | (go_at_call 47; refine (HT.out _ hP4).mono ?_; rintro e w5 ⟨rfl, hb⟩; have hb5 := hb4.trans (hb.mono hb4.size); have bN5 := bN4.below hb hnl4; obtain ⟨n0, n1⟩ := bN5.two; have hP5 := hP4.at hb; have hR5 := hR4.at hb; obtain ⟨b0, b1, b2⟩ := HBX.out _ hb5)
    | (go_at_call 49; have hn6 : Below w5.heap.size w5 (w5.alloc (.cells #[.int .i64 0, .int .i64 0] 3)) := (Below.refl _ _).alloc (Nat.le_refl _) _; refine (HALL.out _ _ _ _ (hP5.at hn6) (hR5.at hn6) (Blk.new w5 3 #[.int .i64 0, .int .i64 0])).mono ?_; rintro e w7 ⟨rfl, hb⟩; have hb7 := (hb5.trans (hn6.mono hb5.size)).trans (hb.mono (Nat.le_trans hb5.size hn6.size)))
    | (go_at_call 48; refine (HKD.out _ _).mono ?_; rintro e w8 ⟨rfl, rfl⟩))
  go_ret
  exact ⟨by show Ending.returned (Value.int .i64 (ifso (b = true) 0)) = _; rw [← HBB.out, ifso_dec], hB0.trans (hb7.mono hB0.size)⟩
set_option maxRecDepth 100000 in
set_option maxHeartbeats 2000000 in
theorem of_12 (p : Prg) (k : Nat) (n : Int) (ks : List Int) (w : World) (hp : p.Ok w) (hN : NodeAt p k 12 n ks) (hA : Asks p ks) :
    Calls Try.prog 37 #[.agg #[.int .i64 p.ps, .slice p.A p.vs.length p.c, .slice p.B p.xs.length p.e], .int .i64 k] w fun e w' => e = .returned (.int .i64 (ifso (ks.map (okind p.vs p.xs) = [0, 0]) 1)) ∧ Below w.heap.size w w' := by
  obtain ⟨ad, hB1, -, -, -⟩ := hp.body k _ hN.node
  obtain ⟨ps, A, c, vs, B, e, xs⟩ := p
  simp only at hB1
  subst hB1
  have hB0 : Below w.heap.size w (w.alloc (.cells #[.int .i64 ps, .slice A vs.length c, .slice (some ad) xs.length e] 25)) := (Below.refl _ _).alloc (Nat.le_refl _) _
  have bX := Blk.new w 25 #[.int .i64 ps, .slice A vs.length c, .slice (some ad) xs.length e]
  have hgl : w.heap.size < (w.alloc (.cells #[.int .i64 ps, .slice A vs.length c, .slice (some ad) xs.length e] 25)).heap.size := bX.lt
  have HBX := Lib.hid (fun W (h : Below (w.alloc (.cells #[.int .i64 ps, .slice A vs.length c, .slice (some ad) xs.length e] 25)).heap.size (w.alloc (.cells #[.int .i64 ps, .slice A vs.length c, .slice (some ad) xs.length e] 25)) W) => (bX.below h hgl).three)
  have HX := Lib.hid (hp.at hB0)
  have hlx : xs.length ≤ 1000000 := hp.lx
  obtain ⟨E, hE⟩ := Int.eq_ofNat_of_zero_le hN.ends
  have hks := hN.kids
  simp only at hE hks
  have HE := Lib.hid (fun W (hW : Nodes W W.heap.size (some ad) xs) => ref_End_any (some ad) e xs (k : Int) W hW hlx)
  rw [hE] at HE
  have HK := Lib.hid (fun W (hW : Nodes W W.heap.size (some ad) xs) => (ref_Kids_any (some ad) e xs (k : Int) W hW hlx).mono (fun _ _ h => h.ints))
  rw [hks] at HK
  have HT := Lib.hid (fun W (hW : Prg.Ok ⟨ps, A, c, vs, some ad, e, xs⟩ W) => ref_typed_any ⟨ps, A, c, vs, some ad, e, xs⟩ n W hW)
  have hn : xs[k]? = some (12, n) := hN.node
  have HBD := Lib.hid (fun W (hW : Nodes W W.heap.size (some ad) xs) => show W.cell? (ad.add (k * 2)) = some (.int .i64 12) ∧ W.cell? ⟨(ad.add (k * 2)).block, (ad.add (k * 2)).off + 1, none⟩ = some (.int .i64 n) from by
    obtain ⟨_, q, -, q1, q2⟩ := hW k _ hn
    cases q
    exact ⟨q1, q2⟩)
  have i1 : (k : Int) < (xs.length : Int) := by have := (List.getElem?_eq_some_iff.1 hn).1; omega
  have i2 : (0 : Int) ≤ (k : Int) := by omega
  have i3 : ¬ (E : Int) < 0 := by omega
  have HAS := Lib.hid hA
  obtain ⟨t, ht⟩ : ∃ t, vtyp vs n = t := ⟨_, rfl⟩
  simp only [ht] at HT
  clear hN hA hn hE hks hp bX ht
  obtain ⟨b0, b1, b2⟩ := HBX.out _ (Below.refl _ _)
  have HALL := Lib.hid (fun W A1 c1 g (hW : (⟨ps, A, c, vs, some ad, e, xs⟩ : Prg).Ok W) (hR : IRow W W.heap.size A1 ks) (hg : Blk W g 3 #[.int .i64 0, .int .i64 0]) => show Calls Try.prog 49 #[.agg #[.int .i64 ps, .slice A vs.length c, .slice (some ad) xs.length e], .slice A1 ks.length c1, .slice (some ⟨g, 0, none⟩) 2 2] W _ from ref_all_any (⟨ps, A, c, vs, some ad, e, xs⟩ : Prg) (okind vs xs) A1 c1 ks (some ⟨g, 0, none⟩) 2 [0, 0] W hW HAS.out.of hR (IRow.one g [0, 0] hg hg.lt) (by have := HAS.out.len; omega) (by decide))
  obtain ⟨b, hb0⟩ : ∃ b, decide (ks.map (okind vs xs) = [0, 0]) = b := ⟨_, rfl⟩
  rw [hb0] at HALL
  have HBB := Lib.hid hb0
  clear hb0
  have HKD := Lib.hid (fun k W => ref_kind_any b k W)
  go_enter Try.func37, Try.ntmps37
  go_wp2_with (first
    | (go_at_call 36; refine (HE.out _ HX.out.body).mono ?_; rintro e w2 ⟨rfl, hb2⟩; have hP2 := HX.out.at hb2; obtain ⟨a0, a1, a2⟩ := HBX.out _ hb2; obtain ⟨g0, g1⟩ := HBD.out _ hP2.body; have hn3 : Below w2.heap.size w2 (w2.alloc (.cells #[.int .i64 12, .int .i64 n] 39)) := (Below.refl _ _).alloc (Nat.le_refl _) _; have hb3 := hb2.trans (hn3.mono hb2.size); have bN := Blk.new w2 39 #[.int .i64 12, .int .i64 n]; have hnl := bN.lt; have hP3 := hP2.at hn3; obtain ⟨b0, b1, b2⟩ := HBX.out _ hb3)
    | (go_at_call 38; refine (HK.out _ hP3.body).mono ?_; rintro e w4 ⟨hb, A1, c1, rfl, hR4, -⟩; have hb4 := hb3.trans (hb.mono hb3.size); have bN4 := bN.below hb hnl; obtain ⟨n0, n1⟩ := bN4.two; have hnl4 := bN4.lt; have hP4 := hP3.at hb; obtain ⟨b0, b1, b2⟩ := HBX.out _ hb4)
    | (go_at_call 47; refine (HT.out _ hP4).mono ?_; rintro e w5 ⟨rfl, hb⟩; have hb5 := hb4.trans (hb.mono hb4.size); have bN5 := bN4.below hb hnl4; obtain ⟨n0, n1⟩ := bN5.two; have hP5 := hP4.at hb; have hR5 := hR4.at hb; obtain ⟨b0, b1, b2⟩ := HBX.out _ hb5)
    | (go_at_call 49; have hn6 : Below w5.heap.size w5 (w5.alloc (.cells #[.int .i64 0, .int .i64 0] 3)) := (Below.refl _ _).alloc (Nat.le_refl _) _; refine (HALL.out _ _ _ _ (hP5.at hn6) (hR5.at hn6) (Blk.new w5 3 #[.int .i64 0, .int .i64 0])).mono ?_; rintro e w7 ⟨rfl, hb⟩; have hb7 := (hb5.trans (hn6.mono hb5.size)).trans (hb.mono (Nat.le_trans hb5.size hn6.size)))
    | (go_at_call 48; refine (HKD.out _ _).mono ?_; rintro e w8 ⟨rfl, rfl⟩))
  go_ret
  exact ⟨by show Ending.returned (Value.int .i64 (ifso (b = true) 1)) = _; rw [← HBB.out, ifso_dec], hB0.trans (hb7.mono hB0.size)⟩
set_option maxRecDepth 100000 in
set_option maxHeartbeats 2000000 in
theorem of_13 (p : Prg) (k : Nat) (n : Int) (ks : List Int) (w : World) (hp : p.Ok w) (hN : NodeAt p k 13 n ks) (hA : Asks p ks) :
    Calls Try.prog 37 #[.agg #[.int .i64 p.ps, .slice p.A p.vs.length p.c, .slice p.B p.xs.length p.e], .int .i64 k] w fun e w' => e = .returned (.int .i64 (ifso (ks.map (okind p.vs p.xs) = [0, 0]) 1)) ∧ Below w.heap.size w w' := by
  obtain ⟨ad, hB1, -, -, -⟩ := hp.body k _ hN.node
  obtain ⟨ps, A, c, vs, B, e, xs⟩ := p
  simp only at hB1
  subst hB1
  have hB0 : Below w.heap.size w (w.alloc (.cells #[.int .i64 ps, .slice A vs.length c, .slice (some ad) xs.length e] 25)) := (Below.refl _ _).alloc (Nat.le_refl _) _
  have bX := Blk.new w 25 #[.int .i64 ps, .slice A vs.length c, .slice (some ad) xs.length e]
  have hgl : w.heap.size < (w.alloc (.cells #[.int .i64 ps, .slice A vs.length c, .slice (some ad) xs.length e] 25)).heap.size := bX.lt
  have HBX := Lib.hid (fun W (h : Below (w.alloc (.cells #[.int .i64 ps, .slice A vs.length c, .slice (some ad) xs.length e] 25)).heap.size (w.alloc (.cells #[.int .i64 ps, .slice A vs.length c, .slice (some ad) xs.length e] 25)) W) => (bX.below h hgl).three)
  have HX := Lib.hid (hp.at hB0)
  have hlx : xs.length ≤ 1000000 := hp.lx
  obtain ⟨E, hE⟩ := Int.eq_ofNat_of_zero_le hN.ends
  have hks := hN.kids
  simp only at hE hks
  have HE := Lib.hid (fun W (hW : Nodes W W.heap.size (some ad) xs) => ref_End_any (some ad) e xs (k : Int) W hW hlx)
  rw [hE] at HE
  have HK := Lib.hid (fun W (hW : Nodes W W.heap.size (some ad) xs) => (ref_Kids_any (some ad) e xs (k : Int) W hW hlx).mono (fun _ _ h => h.ints))
  rw [hks] at HK
  have HT := Lib.hid (fun W (hW : Prg.Ok ⟨ps, A, c, vs, some ad, e, xs⟩ W) => ref_typed_any ⟨ps, A, c, vs, some ad, e, xs⟩ n W hW)
  have hn : xs[k]? = some (13, n) := hN.node
  have HBD := Lib.hid (fun W (hW : Nodes W W.heap.size (some ad) xs) => show W.cell? (ad.add (k * 2)) = some (.int .i64 13) ∧ W.cell? ⟨(ad.add (k * 2)).block, (ad.add (k * 2)).off + 1, none⟩ = some (.int .i64 n) from by
    obtain ⟨_, q, -, q1, q2⟩ := hW k _ hn
    cases q
    exact ⟨q1, q2⟩)
  have i1 : (k : Int) < (xs.length : Int) := by have := (List.getElem?_eq_some_iff.1 hn).1; omega
  have i2 : (0 : Int) ≤ (k : Int) := by omega
  have i3 : ¬ (E : Int) < 0 := by omega
  have HAS := Lib.hid hA
  obtain ⟨t, ht⟩ : ∃ t, vtyp vs n = t := ⟨_, rfl⟩
  simp only [ht] at HT
  clear hN hA hn hE hks hp bX ht
  obtain ⟨b0, b1, b2⟩ := HBX.out _ (Below.refl _ _)
  have HALL := Lib.hid (fun W A1 c1 g (hW : (⟨ps, A, c, vs, some ad, e, xs⟩ : Prg).Ok W) (hR : IRow W W.heap.size A1 ks) (hg : Blk W g 3 #[.int .i64 0, .int .i64 0]) => show Calls Try.prog 49 #[.agg #[.int .i64 ps, .slice A vs.length c, .slice (some ad) xs.length e], .slice A1 ks.length c1, .slice (some ⟨g, 0, none⟩) 2 2] W _ from ref_all_any (⟨ps, A, c, vs, some ad, e, xs⟩ : Prg) (okind vs xs) A1 c1 ks (some ⟨g, 0, none⟩) 2 [0, 0] W hW HAS.out.of hR (IRow.one g [0, 0] hg hg.lt) (by have := HAS.out.len; omega) (by decide))
  obtain ⟨b, hb0⟩ : ∃ b, decide (ks.map (okind vs xs) = [0, 0]) = b := ⟨_, rfl⟩
  rw [hb0] at HALL
  have HBB := Lib.hid hb0
  clear hb0
  have HKD := Lib.hid (fun k W => ref_kind_any b k W)
  go_enter Try.func37, Try.ntmps37
  go_wp2_with (first
    | (go_at_call 36; refine (HE.out _ HX.out.body).mono ?_; rintro e w2 ⟨rfl, hb2⟩; have hP2 := HX.out.at hb2; obtain ⟨a0, a1, a2⟩ := HBX.out _ hb2; obtain ⟨g0, g1⟩ := HBD.out _ hP2.body; have hn3 : Below w2.heap.size w2 (w2.alloc (.cells #[.int .i64 13, .int .i64 n] 39)) := (Below.refl _ _).alloc (Nat.le_refl _) _; have hb3 := hb2.trans (hn3.mono hb2.size); have bN := Blk.new w2 39 #[.int .i64 13, .int .i64 n]; have hnl := bN.lt; have hP3 := hP2.at hn3; obtain ⟨b0, b1, b2⟩ := HBX.out _ hb3)
    | (go_at_call 38; refine (HK.out _ hP3.body).mono ?_; rintro e w4 ⟨hb, A1, c1, rfl, hR4, -⟩; have hb4 := hb3.trans (hb.mono hb3.size); have bN4 := bN.below hb hnl; obtain ⟨n0, n1⟩ := bN4.two; have hnl4 := bN4.lt; have hP4 := hP3.at hb; obtain ⟨b0, b1, b2⟩ := HBX.out _ hb4)
    | (go_at_call 47; refine (HT.out _ hP4).mono ?_; rintro e w5 ⟨rfl, hb⟩; have hb5 := hb4.trans (hb.mono hb4.size); have bN5 := bN4.below hb hnl4; obtain ⟨n0, n1⟩ := bN5.two; have hP5 := hP4.at hb; have hR5 := hR4.at hb; obtain ⟨b0, b1, b2⟩ := HBX.out _ hb5)
    | (go_at_call 49; have hn6 : Below w5.heap.size w5 (w5.alloc (.cells #[.int .i64 0, .int .i64 0] 3)) := (Below.refl _ _).alloc (Nat.le_refl _) _; refine (HALL.out _ _ _ _ (hP5.at hn6) (hR5.at hn6) (Blk.new w5 3 #[.int .i64 0, .int .i64 0])).mono ?_; rintro e w7 ⟨rfl, hb⟩; have hb7 := (hb5.trans (hn6.mono hb5.size)).trans (hb.mono (Nat.le_trans hb5.size hn6.size)))
    | (go_at_call 48; refine (HKD.out _ _).mono ?_; rintro e w8 ⟨rfl, rfl⟩))
  go_ret
  exact ⟨by show Ending.returned (Value.int .i64 (ifso (b = true) 1)) = _; rw [← HBB.out, ifso_dec], hB0.trans (hb7.mono hB0.size)⟩
set_option maxRecDepth 100000 in
set_option maxHeartbeats 2000000 in
theorem of_14 (p : Prg) (k : Nat) (n : Int) (ks : List Int) (w : World) (hp : p.Ok w) (hN : NodeAt p k 14 n ks) (hA : Asks p ks) :
    Calls Try.prog 37 #[.agg #[.int .i64 p.ps, .slice p.A p.vs.length p.c, .slice p.B p.xs.length p.e], .int .i64 k] w fun e w' => e = .returned (.int .i64 (ifso (ks.map (okind p.vs p.xs) = [0, 0]) 1)) ∧ Below w.heap.size w w' := by
  obtain ⟨ad, hB1, -, -, -⟩ := hp.body k _ hN.node
  obtain ⟨ps, A, c, vs, B, e, xs⟩ := p
  simp only at hB1
  subst hB1
  have hB0 : Below w.heap.size w (w.alloc (.cells #[.int .i64 ps, .slice A vs.length c, .slice (some ad) xs.length e] 25)) := (Below.refl _ _).alloc (Nat.le_refl _) _
  have bX := Blk.new w 25 #[.int .i64 ps, .slice A vs.length c, .slice (some ad) xs.length e]
  have hgl : w.heap.size < (w.alloc (.cells #[.int .i64 ps, .slice A vs.length c, .slice (some ad) xs.length e] 25)).heap.size := bX.lt
  have HBX := Lib.hid (fun W (h : Below (w.alloc (.cells #[.int .i64 ps, .slice A vs.length c, .slice (some ad) xs.length e] 25)).heap.size (w.alloc (.cells #[.int .i64 ps, .slice A vs.length c, .slice (some ad) xs.length e] 25)) W) => (bX.below h hgl).three)
  have HX := Lib.hid (hp.at hB0)
  have hlx : xs.length ≤ 1000000 := hp.lx
  obtain ⟨E, hE⟩ := Int.eq_ofNat_of_zero_le hN.ends
  have hks := hN.kids
  simp only at hE hks
  have HE := Lib.hid (fun W (hW : Nodes W W.heap.size (some ad) xs) => ref_End_any (some ad) e xs (k : Int) W hW hlx)
  rw [hE] at HE
  have HK := Lib.hid (fun W (hW : Nodes W W.heap.size (some ad) xs) => (ref_Kids_any (some ad) e xs (k : Int) W hW hlx).mono (fun _ _ h => h.ints))
  rw [hks] at HK
  have HT := Lib.hid (fun W (hW : Prg.Ok ⟨ps, A, c, vs, some ad, e, xs⟩ W) => ref_typed_any ⟨ps, A, c, vs, some ad, e, xs⟩ n W hW)
  have hn : xs[k]? = some (14, n) := hN.node
  have HBD := Lib.hid (fun W (hW : Nodes W W.heap.size (some ad) xs) => show W.cell? (ad.add (k * 2)) = some (.int .i64 14) ∧ W.cell? ⟨(ad.add (k * 2)).block, (ad.add (k * 2)).off + 1, none⟩ = some (.int .i64 n) from by
    obtain ⟨_, q, -, q1, q2⟩ := hW k _ hn
    cases q
    exact ⟨q1, q2⟩)
  have i1 : (k : Int) < (xs.length : Int) := by have := (List.getElem?_eq_some_iff.1 hn).1; omega
  have i2 : (0 : Int) ≤ (k : Int) := by omega
  have i3 : ¬ (E : Int) < 0 := by omega
  have HAS := Lib.hid hA
  obtain ⟨t, ht⟩ : ∃ t, vtyp vs n = t := ⟨_, rfl⟩
  simp only [ht] at HT
  clear hN hA hn hE hks hp bX ht
  obtain ⟨b0, b1, b2⟩ := HBX.out _ (Below.refl _ _)
  have HALL := Lib.hid (fun W A1 c1 g (hW : (⟨ps, A, c, vs, some ad, e, xs⟩ : Prg).Ok W) (hR : IRow W W.heap.size A1 ks) (hg : Blk W g 3 #[.int .i64 0, .int .i64 0]) => show Calls Try.prog 49 #[.agg #[.int .i64 ps, .slice A vs.length c, .slice (some ad) xs.length e], .slice A1 ks.length c1, .slice (some ⟨g, 0, none⟩) 2 2] W _ from ref_all_any (⟨ps, A, c, vs, some ad, e, xs⟩ : Prg) (okind vs xs) A1 c1 ks (some ⟨g, 0, none⟩) 2 [0, 0] W hW HAS.out.of hR (IRow.one g [0, 0] hg hg.lt) (by have := HAS.out.len; omega) (by decide))
  obtain ⟨b, hb0⟩ : ∃ b, decide (ks.map (okind vs xs) = [0, 0]) = b := ⟨_, rfl⟩
  rw [hb0] at HALL
  have HBB := Lib.hid hb0
  clear hb0
  have HKD := Lib.hid (fun k W => ref_kind_any b k W)
  go_enter Try.func37, Try.ntmps37
  go_wp2_with (first
    | (go_at_call 36; refine (HE.out _ HX.out.body).mono ?_; rintro e w2 ⟨rfl, hb2⟩; have hP2 := HX.out.at hb2; obtain ⟨a0, a1, a2⟩ := HBX.out _ hb2; obtain ⟨g0, g1⟩ := HBD.out _ hP2.body; have hn3 : Below w2.heap.size w2 (w2.alloc (.cells #[.int .i64 14, .int .i64 n] 39)) := (Below.refl _ _).alloc (Nat.le_refl _) _; have hb3 := hb2.trans (hn3.mono hb2.size); have bN := Blk.new w2 39 #[.int .i64 14, .int .i64 n]; have hnl := bN.lt; have hP3 := hP2.at hn3; obtain ⟨b0, b1, b2⟩ := HBX.out _ hb3)
    | (go_at_call 38; refine (HK.out _ hP3.body).mono ?_; rintro e w4 ⟨hb, A1, c1, rfl, hR4, -⟩; have hb4 := hb3.trans (hb.mono hb3.size); have bN4 := bN.below hb hnl; obtain ⟨n0, n1⟩ := bN4.two; have hnl4 := bN4.lt; have hP4 := hP3.at hb; obtain ⟨b0, b1, b2⟩ := HBX.out _ hb4)
    | (go_at_call 47; refine (HT.out _ hP4).mono ?_; rintro e w5 ⟨rfl, hb⟩; have hb5 := hb4.trans (hb.mono hb4.size); have bN5 := bN4.below hb hnl4; obtain ⟨n0, n1⟩ := bN5.two; have hP5 := hP4.at hb; have hR5 := hR4.at hb; obtain ⟨b0, b1, b2⟩ := HBX.out _ hb5)
    | (go_at_call 49; have hn6 : Below w5.heap.size w5 (w5.alloc (.cells #[.int .i64 0, .int .i64 0] 3)) := (Below.refl _ _).alloc (Nat.le_refl _) _; refine (HALL.out _ _ _ _ (hP5.at hn6) (hR5.at hn6) (Blk.new w5 3 #[.int .i64 0, .int .i64 0])).mono ?_; rintro e w7 ⟨rfl, hb⟩; have hb7 := (hb5.trans (hn6.mono hb5.size)).trans (hb.mono (Nat.le_trans hb5.size hn6.size)))
    | (go_at_call 48; refine (HKD.out _ _).mono ?_; rintro e w8 ⟨rfl, rfl⟩))
  go_ret
  exact ⟨by show Ending.returned (Value.int .i64 (ifso (b = true) 1)) = _; rw [← HBB.out, ifso_dec], hB0.trans (hb7.mono hB0.size)⟩
set_option maxRecDepth 100000 in
set_option maxHeartbeats 2000000 in
theorem of_15 (p : Prg) (k : Nat) (n : Int) (ks : List Int) (w : World) (hp : p.Ok w) (hN : NodeAt p k 15 n ks) (hA : Asks p ks) :
    Calls Try.prog 37 #[.agg #[.int .i64 p.ps, .slice p.A p.vs.length p.c, .slice p.B p.xs.length p.e], .int .i64 k] w fun e w' => e = .returned (.int .i64 (ifso (ks.map (okind p.vs p.xs) = [0, 0]) 1)) ∧ Below w.heap.size w w' := by
  obtain ⟨ad, hB1, -, -, -⟩ := hp.body k _ hN.node
  obtain ⟨ps, A, c, vs, B, e, xs⟩ := p
  simp only at hB1
  subst hB1
  have hB0 : Below w.heap.size w (w.alloc (.cells #[.int .i64 ps, .slice A vs.length c, .slice (some ad) xs.length e] 25)) := (Below.refl _ _).alloc (Nat.le_refl _) _
  have bX := Blk.new w 25 #[.int .i64 ps, .slice A vs.length c, .slice (some ad) xs.length e]
  have hgl : w.heap.size < (w.alloc (.cells #[.int .i64 ps, .slice A vs.length c, .slice (some ad) xs.length e] 25)).heap.size := bX.lt
  have HBX := Lib.hid (fun W (h : Below (w.alloc (.cells #[.int .i64 ps, .slice A vs.length c, .slice (some ad) xs.length e] 25)).heap.size (w.alloc (.cells #[.int .i64 ps, .slice A vs.length c, .slice (some ad) xs.length e] 25)) W) => (bX.below h hgl).three)
  have HX := Lib.hid (hp.at hB0)
  have hlx : xs.length ≤ 1000000 := hp.lx
  obtain ⟨E, hE⟩ := Int.eq_ofNat_of_zero_le hN.ends
  have hks := hN.kids
  simp only at hE hks
  have HE := Lib.hid (fun W (hW : Nodes W W.heap.size (some ad) xs) => ref_End_any (some ad) e xs (k : Int) W hW hlx)
  rw [hE] at HE
  have HK := Lib.hid (fun W (hW : Nodes W W.heap.size (some ad) xs) => (ref_Kids_any (some ad) e xs (k : Int) W hW hlx).mono (fun _ _ h => h.ints))
  rw [hks] at HK
  have HT := Lib.hid (fun W (hW : Prg.Ok ⟨ps, A, c, vs, some ad, e, xs⟩ W) => ref_typed_any ⟨ps, A, c, vs, some ad, e, xs⟩ n W hW)
  have hn : xs[k]? = some (15, n) := hN.node
  have HBD := Lib.hid (fun W (hW : Nodes W W.heap.size (some ad) xs) => show W.cell? (ad.add (k * 2)) = some (.int .i64 15) ∧ W.cell? ⟨(ad.add (k * 2)).block, (ad.add (k * 2)).off + 1, none⟩ = some (.int .i64 n) from by
    obtain ⟨_, q, -, q1, q2⟩ := hW k _ hn
    cases q
    exact ⟨q1, q2⟩)
  have i1 : (k : Int) < (xs.length : Int) := by have := (List.getElem?_eq_some_iff.1 hn).1; omega
  have i2 : (0 : Int) ≤ (k : Int) := by omega
  have i3 : ¬ (E : Int) < 0 := by omega
  have HAS := Lib.hid hA
  obtain ⟨t, ht⟩ : ∃ t, vtyp vs n = t := ⟨_, rfl⟩
  simp only [ht] at HT
  clear hN hA hn hE hks hp bX ht
  obtain ⟨b0, b1, b2⟩ := HBX.out _ (Below.refl _ _)
  have HALL := Lib.hid (fun W A1 c1 g (hW : (⟨ps, A, c, vs, some ad, e, xs⟩ : Prg).Ok W) (hR : IRow W W.heap.size A1 ks) (hg : Blk W g 3 #[.int .i64 0, .int .i64 0]) => show Calls Try.prog 49 #[.agg #[.int .i64 ps, .slice A vs.length c, .slice (some ad) xs.length e], .slice A1 ks.length c1, .slice (some ⟨g, 0, none⟩) 2 2] W _ from ref_all_any (⟨ps, A, c, vs, some ad, e, xs⟩ : Prg) (okind vs xs) A1 c1 ks (some ⟨g, 0, none⟩) 2 [0, 0] W hW HAS.out.of hR (IRow.one g [0, 0] hg hg.lt) (by have := HAS.out.len; omega) (by decide))
  obtain ⟨b, hb0⟩ : ∃ b, decide (ks.map (okind vs xs) = [0, 0]) = b := ⟨_, rfl⟩
  rw [hb0] at HALL
  have HBB := Lib.hid hb0
  clear hb0
  have HKD := Lib.hid (fun k W => ref_kind_any b k W)
  go_enter Try.func37, Try.ntmps37
  go_wp2_with (first
    | (go_at_call 36; refine (HE.out _ HX.out.body).mono ?_; rintro e w2 ⟨rfl, hb2⟩; have hP2 := HX.out.at hb2; obtain ⟨a0, a1, a2⟩ := HBX.out _ hb2; obtain ⟨g0, g1⟩ := HBD.out _ hP2.body; have hn3 : Below w2.heap.size w2 (w2.alloc (.cells #[.int .i64 15, .int .i64 n] 39)) := (Below.refl _ _).alloc (Nat.le_refl _) _; have hb3 := hb2.trans (hn3.mono hb2.size); have bN := Blk.new w2 39 #[.int .i64 15, .int .i64 n]; have hnl := bN.lt; have hP3 := hP2.at hn3; obtain ⟨b0, b1, b2⟩ := HBX.out _ hb3)
    | (go_at_call 38; refine (HK.out _ hP3.body).mono ?_; rintro e w4 ⟨hb, A1, c1, rfl, hR4, -⟩; have hb4 := hb3.trans (hb.mono hb3.size); have bN4 := bN.below hb hnl; obtain ⟨n0, n1⟩ := bN4.two; have hnl4 := bN4.lt; have hP4 := hP3.at hb; obtain ⟨b0, b1, b2⟩ := HBX.out _ hb4)
    | (go_at_call 47; refine (HT.out _ hP4).mono ?_; rintro e w5 ⟨rfl, hb⟩; have hb5 := hb4.trans (hb.mono hb4.size); have bN5 := bN4.below hb hnl4; obtain ⟨n0, n1⟩ := bN5.two; have hP5 := hP4.at hb; have hR5 := hR4.at hb; obtain ⟨b0, b1, b2⟩ := HBX.out _ hb5)
    | (go_at_call 49; have hn6 : Below w5.heap.size w5 (w5.alloc (.cells #[.int .i64 0, .int .i64 0] 3)) := (Below.refl _ _).alloc (Nat.le_refl _) _; refine (HALL.out _ _ _ _ (hP5.at hn6) (hR5.at hn6) (Blk.new w5 3 #[.int .i64 0, .int .i64 0])).mono ?_; rintro e w7 ⟨rfl, hb⟩; have hb7 := (hb5.trans (hn6.mono hb5.size)).trans (hb.mono (Nat.le_trans hb5.size hn6.size)))
    | (go_at_call 48; refine (HKD.out _ _).mono ?_; rintro e w8 ⟨rfl, rfl⟩))
  go_ret
  exact ⟨by show Ending.returned (Value.int .i64 (ifso (b = true) 1)) = _; rw [← HBB.out, ifso_dec], hB0.trans (hb7.mono hB0.size)⟩
set_option maxRecDepth 100000 in
set_option maxHeartbeats 2000000 in
theorem of_16 (p : Prg) (k : Nat) (n : Int) (ks : List Int) (w : World) (hp : p.Ok w) (hN : NodeAt p k 16 n ks) (hA : Asks p ks) :
    Calls Try.prog 37 #[.agg #[.int .i64 p.ps, .slice p.A p.vs.length p.c, .slice p.B p.xs.length p.e], .int .i64 k] w fun e w' => e = .returned (.int .i64 (ifso (ks.map (okind p.vs p.xs) = [0, 0]) 1)) ∧ Below w.heap.size w w' := by
  obtain ⟨ad, hB1, -, -, -⟩ := hp.body k _ hN.node
  obtain ⟨ps, A, c, vs, B, e, xs⟩ := p
  simp only at hB1
  subst hB1
  have hB0 : Below w.heap.size w (w.alloc (.cells #[.int .i64 ps, .slice A vs.length c, .slice (some ad) xs.length e] 25)) := (Below.refl _ _).alloc (Nat.le_refl _) _
  have bX := Blk.new w 25 #[.int .i64 ps, .slice A vs.length c, .slice (some ad) xs.length e]
  have hgl : w.heap.size < (w.alloc (.cells #[.int .i64 ps, .slice A vs.length c, .slice (some ad) xs.length e] 25)).heap.size := bX.lt
  have HBX := Lib.hid (fun W (h : Below (w.alloc (.cells #[.int .i64 ps, .slice A vs.length c, .slice (some ad) xs.length e] 25)).heap.size (w.alloc (.cells #[.int .i64 ps, .slice A vs.length c, .slice (some ad) xs.length e] 25)) W) => (bX.below h hgl).three)
  have HX := Lib.hid (hp.at hB0)
  have hlx : xs.length ≤ 1000000 := hp.lx
  obtain ⟨E, hE⟩ := Int.eq_ofNat_of_zero_le hN.ends
  have hks := hN.kids
  simp only at hE hks
  have HE := Lib.hid (fun W (hW : Nodes W W.heap.size (some ad) xs) => ref_End_any (some ad) e xs (k : Int) W hW hlx)
  rw [hE] at HE
  have HK := Lib.hid (fun W (hW : Nodes W W.heap.size (some ad) xs) => (ref_Kids_any (some ad) e xs (k : Int) W hW hlx).mono (fun _ _ h => h.ints))
  rw [hks] at HK
  have HT := Lib.hid (fun W (hW : Prg.Ok ⟨ps, A, c, vs, some ad, e, xs⟩ W) => ref_typed_any ⟨ps, A, c, vs, some ad, e, xs⟩ n W hW)
  have hn : xs[k]? = some (16, n) := hN.node
  have HBD := Lib.hid (fun W (hW : Nodes W W.heap.size (some ad) xs) => show W.cell? (ad.add (k * 2)) = some (.int .i64 16) ∧ W.cell? ⟨(ad.add (k * 2)).block, (ad.add (k * 2)).off + 1, none⟩ = some (.int .i64 n) from by
    obtain ⟨_, q, -, q1, q2⟩ := hW k _ hn
    cases q
    exact ⟨q1, q2⟩)
  have i1 : (k : Int) < (xs.length : Int) := by have := (List.getElem?_eq_some_iff.1 hn).1; omega
  have i2 : (0 : Int) ≤ (k : Int) := by omega
  have i3 : ¬ (E : Int) < 0 := by omega
  have HAS := Lib.hid hA
  obtain ⟨t, ht⟩ : ∃ t, vtyp vs n = t := ⟨_, rfl⟩
  simp only [ht] at HT
  clear hN hA hn hE hks hp bX ht
  obtain ⟨b0, b1, b2⟩ := HBX.out _ (Below.refl _ _)
  have HALL := Lib.hid (fun W A1 c1 g (hW : (⟨ps, A, c, vs, some ad, e, xs⟩ : Prg).Ok W) (hR : IRow W W.heap.size A1 ks) (hg : Blk W g 3 #[.int .i64 0, .int .i64 0]) => show Calls Try.prog 49 #[.agg #[.int .i64 ps, .slice A vs.length c, .slice (some ad) xs.length e], .slice A1 ks.length c1, .slice (some ⟨g, 0, none⟩) 2 2] W _ from ref_all_any (⟨ps, A, c, vs, some ad, e, xs⟩ : Prg) (okind vs xs) A1 c1 ks (some ⟨g, 0, none⟩) 2 [0, 0] W hW HAS.out.of hR (IRow.one g [0, 0] hg hg.lt) (by have := HAS.out.len; omega) (by decide))
  obtain ⟨b, hb0⟩ : ∃ b, decide (ks.map (okind vs xs) = [0, 0]) = b := ⟨_, rfl⟩
  rw [hb0] at HALL
  have HBB := Lib.hid hb0
  clear hb0
  have HKD := Lib.hid (fun k W => ref_kind_any b k W)
  go_enter Try.func37, Try.ntmps37
  go_wp2_with (first
    | (go_at_call 36; refine (HE.out _ HX.out.body).mono ?_; rintro e w2 ⟨rfl, hb2⟩; have hP2 := HX.out.at hb2; obtain ⟨a0, a1, a2⟩ := HBX.out _ hb2; obtain ⟨g0, g1⟩ := HBD.out _ hP2.body; have hn3 : Below w2.heap.size w2 (w2.alloc (.cells #[.int .i64 16, .int .i64 n] 39)) := (Below.refl _ _).alloc (Nat.le_refl _) _; have hb3 := hb2.trans (hn3.mono hb2.size); have bN := Blk.new w2 39 #[.int .i64 16, .int .i64 n]; have hnl := bN.lt; have hP3 := hP2.at hn3; obtain ⟨b0, b1, b2⟩ := HBX.out _ hb3)
    | (go_at_call 38; refine (HK.out _ hP3.body).mono ?_; rintro e w4 ⟨hb, A1, c1, rfl, hR4, -⟩; have hb4 := hb3.trans (hb.mono hb3.size); have bN4 := bN.below hb hnl; obtain ⟨n0, n1⟩ := bN4.two; have hnl4 := bN4.lt; have hP4 := hP3.at hb; obtain ⟨b0, b1, b2⟩ := HBX.out _ hb4)
    | (go_at_call 47; refine (HT.out _ hP4).mono ?_; rintro e w5 ⟨rfl, hb⟩; have hb5 := hb4.trans (hb.mono hb4.size); have bN5 := bN4.below hb hnl4; obtain ⟨n0, n1⟩ := bN5.two; have hP5 := hP4.at hb; have hR5 := hR4.at hb; obtain ⟨b0, b1, b2⟩ := HBX.out _ hb5)
    | (go_at_call 49; have hn6 : Below w5.heap.size w5 (w5.alloc (.cells #[.int .i64 0, .int .i64 0] 3)) := (Below.refl _ _).alloc (Nat.le_refl _) _; refine (HALL.out _ _ _ _ (hP5.at hn6) (hR5.at hn6) (Blk.new w5 3 #[.int .i64 0, .int .i64 0])).mono ?_; rintro e w7 ⟨rfl, hb⟩; have hb7 := (hb5.trans (hn6.mono hb5.size)).trans (hb.mono (Nat.le_trans hb5.size hn6.size)))
    | (go_at_call 48; refine (HKD.out _ _).mono ?_; rintro e w8 ⟨rfl, rfl⟩))
  go_ret
  exact ⟨by show Ending.returned (Value.int .i64 (ifso (b = true) 1)) = _; rw [← HBB.out, ifso_dec], hB0.trans (hb7.mono hB0.size)⟩
set_option maxRecDepth 100000 in
set_option maxHeartbeats 2000000 in
theorem of_17 (p : Prg) (k : Nat) (n : Int) (ks : List Int) (w : World) (hp : p.Ok w) (hN : NodeAt p k 17 n ks) (hA : Asks p ks) :
    Calls Try.prog 37 #[.agg #[.int .i64 p.ps, .slice p.A p.vs.length p.c, .slice p.B p.xs.length p.e], .int .i64 k] w fun e w' => e = .returned (.int .i64 (ifso (ks.map (okind p.vs p.xs) = [0, 0]) 1)) ∧ Below w.heap.size w w' := by
  obtain ⟨ad, hB1, -, -, -⟩ := hp.body k _ hN.node
  obtain ⟨ps, A, c, vs, B, e, xs⟩ := p
  simp only at hB1
  subst hB1
  have hB0 : Below w.heap.size w (w.alloc (.cells #[.int .i64 ps, .slice A vs.length c, .slice (some ad) xs.length e] 25)) := (Below.refl _ _).alloc (Nat.le_refl _) _
  have bX := Blk.new w 25 #[.int .i64 ps, .slice A vs.length c, .slice (some ad) xs.length e]
  have hgl : w.heap.size < (w.alloc (.cells #[.int .i64 ps, .slice A vs.length c, .slice (some ad) xs.length e] 25)).heap.size := bX.lt
  have HBX := Lib.hid (fun W (h : Below (w.alloc (.cells #[.int .i64 ps, .slice A vs.length c, .slice (some ad) xs.length e] 25)).heap.size (w.alloc (.cells #[.int .i64 ps, .slice A vs.length c, .slice (some ad) xs.length e] 25)) W) => (bX.below h hgl).three)
  have HX := Lib.hid (hp.at hB0)
  have hlx : xs.length ≤ 1000000 := hp.lx
  obtain ⟨E, hE⟩ := Int.eq_ofNat_of_zero_le hN.ends
  have hks := hN.kids
  simp only at hE hks
  have HE := Lib.hid (fun W (hW : Nodes W W.heap.size (some ad) xs) => ref_End_any (some ad) e xs (k : Int) W hW hlx)
  rw [hE] at HE
  have HK := Lib.hid (fun W (hW : Nodes W W.heap.size (some ad) xs) => (ref_Kids_any (some ad) e xs (k : Int) W hW hlx).mono (fun _ _ h => h.ints))
  rw [hks] at HK
  have HT := Lib.hid (fun W (hW : Prg.Ok ⟨ps, A, c, vs, some ad, e, xs⟩ W) => ref_typed_any ⟨ps, A, c, vs, some ad, e, xs⟩ n W hW)
  have hn : xs[k]? = some (17, n) := hN.node
  have HBD := Lib.hid (fun W (hW : Nodes W W.heap.size (some ad) xs) => show W.cell? (ad.add (k * 2)) = some (.int .i64 17) ∧ W.cell? ⟨(ad.add (k * 2)).block, (ad.add (k * 2)).off + 1, none⟩ = some (.int .i64 n) from by
    obtain ⟨_, q, -, q1, q2⟩ := hW k _ hn
    cases q
    exact ⟨q1, q2⟩)
  have i1 : (k : Int) < (xs.length : Int) := by have := (List.getElem?_eq_some_iff.1 hn).1; omega
  have i2 : (0 : Int) ≤ (k : Int) := by omega
  have i3 : ¬ (E : Int) < 0 := by omega
  have HAS := Lib.hid hA
  obtain ⟨t, ht⟩ : ∃ t, vtyp vs n = t := ⟨_, rfl⟩
  simp only [ht] at HT
  clear hN hA hn hE hks hp bX ht
  obtain ⟨b0, b1, b2⟩ := HBX.out _ (Below.refl _ _)
  have HALL := Lib.hid (fun W A1 c1 g (hW : (⟨ps, A, c, vs, some ad, e, xs⟩ : Prg).Ok W) (hR : IRow W W.heap.size A1 ks) (hg : Blk W g 3 #[.int .i64 0, .int .i64 0]) => show Calls Try.prog 49 #[.agg #[.int .i64 ps, .slice A vs.length c, .slice (some ad) xs.length e], .slice A1 ks.length c1, .slice (some ⟨g, 0, none⟩) 2 2] W _ from ref_all_any (⟨ps, A, c, vs, some ad, e, xs⟩ : Prg) (okind vs xs) A1 c1 ks (some ⟨g, 0, none⟩) 2 [0, 0] W hW HAS.out.of hR (IRow.one g [0, 0] hg hg.lt) (by have := HAS.out.len; omega) (by decide))
  obtain ⟨b, hb0⟩ : ∃ b, decide (ks.map (okind vs xs) = [0, 0]) = b := ⟨_, rfl⟩
  rw [hb0] at HALL
  have HBB := Lib.hid hb0
  clear hb0
  have HKD := Lib.hid (fun k W => ref_kind_any b k W)
  go_enter Try.func37, Try.ntmps37
  go_wp2_with (first
    | (go_at_call 36; refine (HE.out _ HX.out.body).mono ?_; rintro e w2 ⟨rfl, hb2⟩; have hP2 := HX.out.at hb2; obtain ⟨a0, a1, a2⟩ := HBX.out _ hb2; obtain ⟨g0, g1⟩ := HBD.out _ hP2.body; have hn3 : Below w2.heap.size w2 (w2.alloc (.cells #[.int .i64 17, .int .i64 n] 39)) := (Below.refl _ _).alloc (Nat.le_refl _) _; have hb3 := hb2.trans (hn3.mono hb2.size); have bN := Blk.new w2 39 #[.int .i64 17, .int .i64 n]; have hnl := bN.lt; have hP3 := hP2.at hn3; obtain ⟨b0, b1, b2⟩ := HBX.out _ hb3)
    | (go_at_call 38; refine (HK.out _ hP3.body).mono ?_; rintro e w4 ⟨hb, A1, c1, rfl, hR4, -⟩; have hb4 := hb3.trans (hb.mono hb3.size); have bN4 := bN.below hb hnl; obtain ⟨n0, n1⟩ := bN4.two; have hnl4 := bN4.lt; have hP4 := hP3.at hb; obtain ⟨b0, b1, b2⟩ := HBX.out _ hb4)
    | (go_at_call 47; refine (HT.out _ hP4).mono ?_; rintro e w5 ⟨rfl, hb⟩; have hb5 := hb4.trans (hb.mono hb4.size); have bN5 := bN4.below hb hnl4; obtain ⟨n0, n1⟩ := bN5.two; have hP5 := hP4.at hb; have hR5 := hR4.at hb; obtain ⟨b0, b1, b2⟩ := HBX.out _ hb5)
    | (go_at_call 49; have hn6 : Below w5.heap.size w5 (w5.alloc (.cells #[.int .i64 0, .int .i64 0] 3)) := (Below.refl _ _).alloc (Nat.le_refl _) _; refine (HALL.out _ _ _ _ (hP5.at hn6) (hR5.at hn6) (Blk.new w5 3 #[.int .i64 0, .int .i64 0])).mono ?_; rintro e w7 ⟨rfl, hb⟩; have hb7 := (hb5.trans (hn6.mono hb5.size)).trans (hb.mono (Nat.le_trans hb5.size hn6.size)))
    | (go_at_call 48; refine (HKD.out _ _).mono ?_; rintro e w8 ⟨rfl, rfl⟩))
  go_ret
  exact ⟨by show Ending.returned (Value.int .i64 (ifso (b = true) 1)) = _; rw [← HBB.out, ifso_dec], hB0.trans (hb7.mono hB0.size)⟩
set_option maxRecDepth 100000 in
set_option maxHeartbeats 2000000 in
theorem of_18 (p : Prg) (k : Nat) (n : Int) (ks : List Int) (w : World) (hp : p.Ok w) (hN : NodeAt p k 18 n ks) (hA : Asks p ks) :
    Calls Try.prog 37 #[.agg #[.int .i64 p.ps, .slice p.A p.vs.length p.c, .slice p.B p.xs.length p.e], .int .i64 k] w fun e w' => e = .returned (.int .i64 (ifso (ks.map (okind p.vs p.xs) = [1, 1]) 1)) ∧ Below w.heap.size w w' := by
  obtain ⟨ad, hB1, -, -, -⟩ := hp.body k _ hN.node
  obtain ⟨ps, A, c, vs, B, e, xs⟩ := p
  simp only at hB1
  subst hB1
  have hB0 : Below w.heap.size w (w.alloc (.cells #[.int .i64 ps, .slice A vs.length c, .slice (some ad) xs.length e] 25)) := (Below.refl _ _).alloc (Nat.le_refl _) _
  have bX := Blk.new w 25 #[.int .i64 ps, .slice A vs.length c, .slice (some ad) xs.length e]
  have hgl : w.heap.size < (w.alloc (.cells #[.int .i64 ps, .slice A vs.length c, .slice (some ad) xs.length e] 25)).heap.size := bX.lt
  have HBX := Lib.hid (fun W (h : Below (w.alloc (.cells #[.int .i64 ps, .slice A vs.length c, .slice (some ad) xs.length e] 25)).heap.size (w.alloc (.cells #[.int .i64 ps, .slice A vs.length c, .slice (some ad) xs.length e] 25)) W) => (bX.below h hgl).three)
  have HX := Lib.hid (hp.at hB0)
  have hlx : xs.length ≤ 1000000 := hp.lx
  obtain ⟨E, hE⟩ := Int.eq_ofNat_of_zero_le hN.ends
  have hks := hN.kids
  simp only at hE hks
  have HE := Lib.hid (fun W (hW : Nodes W W.heap.size (some ad) xs) => ref_End_any (some ad) e xs (k : Int) W hW hlx)
  rw [hE] at HE
  have HK := Lib.hid (fun W (hW : Nodes W W.heap.size (some ad) xs) => (ref_Kids_any (some ad) e xs (k : Int) W hW hlx).mono (fun _ _ h => h.ints))
  rw [hks] at HK
  have HT := Lib.hid (fun W (hW : Prg.Ok ⟨ps, A, c, vs, some ad, e, xs⟩ W) => ref_typed_any ⟨ps, A, c, vs, some ad, e, xs⟩ n W hW)
  have hn : xs[k]? = some (18, n) := hN.node
  have HBD := Lib.hid (fun W (hW : Nodes W W.heap.size (some ad) xs) => show W.cell? (ad.add (k * 2)) = some (.int .i64 18) ∧ W.cell? ⟨(ad.add (k * 2)).block, (ad.add (k * 2)).off + 1, none⟩ = some (.int .i64 n) from by
    obtain ⟨_, q, -, q1, q2⟩ := hW k _ hn
    cases q
    exact ⟨q1, q2⟩)
  have i1 : (k : Int) < (xs.length : Int) := by have := (List.getElem?_eq_some_iff.1 hn).1; omega
  have i2 : (0 : Int) ≤ (k : Int) := by omega
  have i3 : ¬ (E : Int) < 0 := by omega
  have HAS := Lib.hid hA
  obtain ⟨t, ht⟩ : ∃ t, vtyp vs n = t := ⟨_, rfl⟩
  simp only [ht] at HT
  clear hN hA hn hE hks hp bX ht
  obtain ⟨b0, b1, b2⟩ := HBX.out _ (Below.refl _ _)
  have HALL := Lib.hid (fun W A1 c1 g (hW : (⟨ps, A, c, vs, some ad, e, xs⟩ : Prg).Ok W) (hR : IRow W W.heap.size A1 ks) (hg : Blk W g 3 #[.int .i64 1, .int .i64 1]) => show Calls Try.prog 49 #[.agg #[.int .i64 ps, .slice A vs.length c, .slice (some ad) xs.length e], .slice A1 ks.length c1, .slice (some ⟨g, 0, none⟩) 2 2] W _ from ref_all_any (⟨ps, A, c, vs, some ad, e, xs⟩ : Prg) (okind vs xs) A1 c1 ks (some ⟨g, 0, none⟩) 2 [1, 1] W hW HAS.out.of hR (IRow.one g [1, 1] hg hg.lt) (by have := HAS.out.len; omega) (by decide))
  obtain ⟨b, hb0⟩ : ∃ b, decide (ks.map (okind vs xs) = [1, 1]) = b := ⟨_, rfl⟩
  rw [hb0] at HALL
  have HBB := Lib.hid hb0
  clear hb0
  have HKD := Lib.hid (fun k W => ref_kind_any b k W)
  go_enter Try.func37, Try.ntmps37
  go_wp2_with (first
    | (go_at_call 36; refine (HE.out _ HX.out.body).mono ?_; rintro e w2 ⟨rfl, hb2⟩; have hP2 := HX.out.at hb2; obtain ⟨a0, a1, a2⟩ := HBX.out _ hb2; obtain ⟨g0, g1⟩ := HBD.out _ hP2.body; have hn3 : Below w2.heap.size w2 (w2.alloc (.cells #[.int .i64 18, .int .i64 n] 39)) := (Below.refl _ _).alloc (Nat.le_refl _) _; have hb3 := hb2.trans (hn3.mono hb2.size); have bN := Blk.new w2 39 #[.int .i64 18, .int .i64 n]; have hnl := bN.lt; have hP3 := hP2.at hn3; obtain ⟨b0, b1, b2⟩ := HBX.out _ hb3)
    | (go_at_call 38; refine (HK.out _ hP3.body).mono ?_; rintro e w4 ⟨hb, A1, c1, rfl, hR4, -⟩; have hb4 := hb3.trans (hb.mono hb3.size); have bN4 := bN.below hb hnl; obtain ⟨n0, n1⟩ := bN4.two; have hnl4 := bN4.lt; have hP4 := hP3.at hb; obtain ⟨b0, b1, b2⟩ := HBX.out _ hb4)
    | (go_at_call 47; refine (HT.out _ hP4).mono ?_; rintro e w5 ⟨rfl, hb⟩; have hb5 := hb4.trans (hb.mono hb4.size); have bN5 := bN4.below hb hnl4; obtain ⟨n0, n1⟩ := bN5.two; have hP5 := hP4.at hb; have hR5 := hR4.at hb; obtain ⟨b0, b1, b2⟩ := HBX.out _ hb5)
    | (go_at_call 49; have hn6 : Below w5.heap.size w5 (w5.alloc (.cells #[.int .i64 1, .int .i64 1] 3)) := (Below.refl _ _).alloc (Nat.le_refl _) _; refine (HALL.out _ _ _ _ (hP5.at hn6) (hR5.at hn6) (Blk.new w5 3 #[.int .i64 1, .int .i64 1])).mono ?_; rintro e w7 ⟨rfl, hb⟩; have hb7 := (hb5.trans (hn6.mono hb5.size)).trans (hb.mono (Nat.le_trans hb5.size hn6.size)))
    | (go_at_call 48; refine (HKD.out _ _).mono ?_; rintro e w8 ⟨rfl, rfl⟩))
  go_ret
  exact ⟨by show Ending.returned (Value.int .i64 (ifso (b = true) 1)) = _; rw [← HBB.out, ifso_dec], hB0.trans (hb7.mono hB0.size)⟩
set_option maxRecDepth 100000 in
set_option maxHeartbeats 2000000 in
theorem of_19 (p : Prg) (k : Nat) (n : Int) (ks : List Int) (w : World) (hp : p.Ok w) (hN : NodeAt p k 19 n ks) (hA : Asks p ks) :
    Calls Try.prog 37 #[.agg #[.int .i64 p.ps, .slice p.A p.vs.length p.c, .slice p.B p.xs.length p.e], .int .i64 k] w fun e w' => e = .returned (.int .i64 (ifso (ks.map (okind p.vs p.xs) = [1, 1]) 1)) ∧ Below w.heap.size w w' := by
  obtain ⟨ad, hB1, -, -, -⟩ := hp.body k _ hN.node
  obtain ⟨ps, A, c, vs, B, e, xs⟩ := p
  simp only at hB1
  subst hB1
  have hB0 : Below w.heap.size w (w.alloc (.cells #[.int .i64 ps, .slice A vs.length c, .slice (some ad) xs.length e] 25)) := (Below.refl _ _).alloc (Nat.le_refl _) _
  have bX := Blk.new w 25 #[.int .i64 ps, .slice A vs.length c, .slice (some ad) xs.length e]
  have hgl : w.heap.size < (w.alloc (.cells #[.int .i64 ps, .slice A vs.length c, .slice (some ad) xs.length e] 25)).heap.size := bX.lt
  have HBX := Lib.hid (fun W (h : Below (w.alloc (.cells #[.int .i64 ps, .slice A vs.length c, .slice (some ad) xs.length e] 25)).heap.size (w.alloc (.cells #[.int .i64 ps, .slice A vs.length c, .slice (some ad) xs.length e] 25)) W) => (bX.below h hgl).three)
  have HX := Lib.hid (hp.at hB0)
  have hlx : xs.length ≤ 1000000 := hp.lx
  obtain ⟨E, hE⟩ := Int.eq_ofNat_of_zero_le hN.ends
  have hks := hN.kids
  simp only at hE hks
  have HE := Lib.hid (fun W (hW : Nodes W W.heap.size (some ad) xs) => ref_End_any (some ad) e xs (k : Int) W hW hlx)
  rw [hE] at HE
  have HK := Lib.hid (fun W (hW : Nodes W W.heap.size (some ad) xs) => (ref_Kids_any (some ad) e xs (k : Int) W hW hlx).mono (fun _ _ h => h.ints))
  rw [hks] at HK
  have HT := Lib.hid (fun W (hW : Prg.Ok ⟨ps, A, c, vs, some ad, e, xs⟩ W) => ref_typed_any ⟨ps, A, c, vs, some ad, e, xs⟩ n W hW)
  have hn : xs[k]? = some (19, n) := hN.node
  have HBD := Lib.hid (fun W (hW : Nodes W W.heap.size (some ad) xs) => show W.cell? (ad.add (k * 2)) = some (.int .i64 19) ∧ W.cell? ⟨(ad.add (k * 2)).block, (ad.add (k * 2)).off + 1, none⟩ = some (.int .i64 n) from by
    obtain ⟨_, q, -, q1, q2⟩ := hW k _ hn
    cases q
    exact ⟨q1, q2⟩)
  have i1 : (k : Int) < (xs.length : Int) := by have := (List.getElem?_eq_some_iff.1 hn).1; omega
  have i2 : (0 : Int) ≤ (k : Int) := by omega
  have i3 : ¬ (E : Int) < 0 := by omega
  have HAS := Lib.hid hA
  obtain ⟨t, ht⟩ : ∃ t, vtyp vs n = t := ⟨_, rfl⟩
  simp only [ht] at HT
  clear hN hA hn hE hks hp bX ht
  obtain ⟨b0, b1, b2⟩ := HBX.out _ (Below.refl _ _)
  have HALL := Lib.hid (fun W A1 c1 g (hW : (⟨ps, A, c, vs, some ad, e, xs⟩ : Prg).Ok W) (hR : IRow W W.heap.size A1 ks) (hg : Blk W g 3 #[.int .i64 1, .int .i64 1]) => show Calls Try.prog 49 #[.agg #[.int .i64 ps, .slice A vs.length c, .slice (some ad) xs.length e], .slice A1 ks.length c1, .slice (some ⟨g, 0, none⟩) 2 2] W _ from ref_all_any (⟨ps, A, c, vs, some ad, e, xs⟩ : Prg) (okind vs xs) A1 c1 ks (some ⟨g, 0, none⟩) 2 [1, 1] W hW HAS.out.of hR (IRow.one g [1, 1] hg hg.lt) (by have := HAS.out.len; omega) (by decide))
  obtain ⟨b, hb0⟩ : ∃ b, decide (ks.map (okind vs xs) = [1, 1]) = b := ⟨_, rfl⟩
  rw [hb0] at HALL
  have HBB := Lib.hid hb0
  clear hb0
  have HKD := Lib.hid (fun k W => ref_kind_any b k W)
  go_enter Try.func37, Try.ntmps37
  go_wp2_with (first
    | (go_at_call 36; refine (HE.out _ HX.out.body).mono ?_; rintro e w2 ⟨rfl, hb2⟩; have hP2 := HX.out.at hb2; obtain ⟨a0, a1, a2⟩ := HBX.out _ hb2; obtain ⟨g0, g1⟩ := HBD.out _ hP2.body; have hn3 : Below w2.heap.size w2 (w2.alloc (.cells #[.int .i64 19, .int .i64 n] 39)) := (Below.refl _ _).alloc (Nat.le_refl _) _; have hb3 := hb2.trans (hn3.mono hb2.size); have bN := Blk.new w2 39 #[.int .i64 19, .int .i64 n]; have hnl := bN.lt; have hP3 := hP2.at hn3; obtain ⟨b0, b1, b2⟩ := HBX.out _ hb3)
    | (go_at_call 38; refine (HK.out _ hP3.body).mono ?_; rintro e w4 ⟨hb, A1, c1, rfl, hR4, -⟩; have hb4 := hb3.trans (hb.mono hb3.size); have bN4 := bN.below hb hnl; obtain ⟨n0, n1⟩ := bN4.two; have hnl4 := bN4.lt; have hP4 := hP3.at hb; obtain ⟨b0, b1, b2⟩ := HBX.out _ hb4)
    | (go_at_call 47; refine (HT.out _ hP4).mono ?_; rintro e w5 ⟨rfl, hb⟩; have hb5 := hb4.trans (hb.mono hb4.size); have bN5 := bN4.below hb hnl4; obtain ⟨n0, n1⟩ := bN5.two; have hP5 := hP4.at hb; have hR5 := hR4.at hb; obtain ⟨b0, b1, b2⟩ := HBX.out _ hb5)
    | (go_at_call 49; have hn6 : Below w5.heap.size w5 (w5.alloc (.cells #[.int .i64 1, .int .i64 1] 3)) := (Below.refl _ _).alloc (Nat.le_refl _) _; refine (HALL.out _ _ _ _ (hP5.at hn6) (hR5.at hn6) (Blk.new w5 3 #[.int .i64 1, .int .i64 1])).mono ?_; rintro e w7 ⟨rfl, hb⟩; have hb7 := (hb5.trans (hn6.mono hb5.size)).trans (hb.mono (Nat.le_trans hb5.size hn6.size)))
    | (go_at_call 48; refine (HKD.out _ _).mono ?_; rintro e w8 ⟨rfl, rfl⟩))
  go_ret
  exact ⟨by show Ending.returned (Value.int .i64 (ifso (b = true) 1)) = _; rw [← HBB.out, ifso_dec], hB0.trans (hb7.mono hB0.size)⟩
set_option maxRecDepth 100000 in
set_option maxHeartbeats 2000000 in
theorem of_20 (p : Prg) (k : Nat) (n : Int) (ks : List Int) (w : World) (hp : p.Ok w) (hN : NodeAt p k 20 n ks) (hA : Asks p ks) :
    Calls Try.prog 37 #[.agg #[.int .i64 p.ps, .slice p.A p.vs.length p.c, .slice p.B p.xs.length p.e], .int .i64 k] w fun e w' => e = .returned (.int .i64 (ifso (alltwo (ks.map (okind p.vs p.xs)) = true) 2)) ∧ Below w.heap.size w w' := by
  obtain ⟨ad, hB1, -, -, -⟩ := hp.body k _ hN.node
  obtain ⟨ps, A, c, vs, B, e, xs⟩ := p
  simp only at hB1
  subst hB1
  have hB0 : Below w.heap.size w (w.alloc (.cells #[.int .i64 ps, .slice A vs.length c, .slice (some ad) xs.length e] 25)) := (Below.refl _ _).alloc (Nat.le_refl _) _
  have bX := Blk.new w 25 #[.int .i64 ps, .slice A vs.length c, .slice (some ad) xs.length e]
  have hgl : w.heap.size < (w.alloc (.cells #[.int .i64 ps, .slice A vs.length c, .slice (some ad) xs.length e] 25)).heap.size := bX.lt
  have HBX := Lib.hid (fun W (h : Below (w.alloc (.cells #[.int .i64 ps, .slice A vs.length c, .slice (some ad) xs.length e] 25)).heap.size (w.alloc (.cells #[.int .i64 ps, .slice A vs.length c, .slice (some ad) xs.length e] 25)) W) => (bX.below h hgl).three)
  have HX := Lib.hid (hp.at hB0)
  have hlx : xs.length ≤ 1000000 := hp.lx
  obtain ⟨E, hE⟩ := Int.eq_ofNat_of_zero_le hN.ends
  have hks := hN.kids
  simp only at hE hks
  have HE := Lib.hid (fun W (hW : Nodes W W.heap.size (some ad) xs) => ref_End_any (some ad) e xs (k : Int) W hW hlx)
  rw [hE] at HE
  have HK := Lib.hid (fun W (hW : Nodes W W.heap.size (some ad) xs) => (ref_Kids_any (some ad) e xs (k : Int) W hW hlx).mono (fun _ _ h => h.ints))
  rw [hks] at HK
  have HT := Lib.hid (fun W (hW : Prg.Ok ⟨ps, A, c, vs, some ad, e, xs⟩ W) => ref_typed_any ⟨ps, A, c, vs, some ad, e, xs⟩ n W hW)
  have hn : xs[k]? = some (20, n) := hN.node
  have HBD := Lib.hid (fun W (hW : Nodes W W.heap.size (some ad) xs) => show W.cell? (ad.add (k * 2)) = some (.int .i64 20) ∧ W.cell? ⟨(ad.add (k * 2)).block, (ad.add (k * 2)).off + 1, none⟩ = some (.int .i64 n) from by
    obtain ⟨_, q, -, q1, q2⟩ := hW k _ hn
    cases q
    exact ⟨q1, q2⟩)
  have i1 : (k : Int) < (xs.length : Int) := by have := (List.getElem?_eq_some_iff.1 hn).1; omega
  have i2 : (0 : Int) ≤ (k : Int) := by omega
  have i3 : ¬ (E : Int) < 0 := by omega
  have HAS := Lib.hid hA
  obtain ⟨t, ht⟩ : ∃ t, vtyp vs n = t := ⟨_, rfl⟩
  simp only [ht] at HT
  clear hN hA hn hE hks hp bX ht
  obtain ⟨b0, b1, b2⟩ := HBX.out _ (Below.refl _ _)
  have HLEN := Lib.hid HAS.out.len
  go_enter Try.func37, Try.ntmps37
  go_wp2_with (first
    | (go_at_call 36; refine (HE.out _ HX.out.body).mono ?_; rintro e w2 ⟨rfl, hb2⟩; have hP2 := HX.out.at hb2; obtain ⟨a0, a1, a2⟩ := HBX.out _ hb2; obtain ⟨g0, g1⟩ := HBD.out _ hP2.body; have hn3 : Below w2.heap.size w2 (w2.alloc (.cells #[.int .i64 20, .int .i64 n] 39)) := (Below.refl _ _).alloc (Nat.le_refl _) _; have hb3 := hb2.trans (hn3.mono hb2.size); have bN := Blk.new w2 39 #[.int .i64 20, .int .i64 n]; have hnl := bN.lt; have hP3 := hP2.at hn3; obtain ⟨b0, b1, b2⟩ := HBX.out _ hb3)
    | (go_at_call 38; refine (HK.out _ hP3.body).mono ?_; rintro e w4 ⟨hb, A1, c1, rfl, hR4, -⟩; have hb4 := hb3.trans (hb.mono hb3.size); have bN4 := bN.below hb hnl; obtain ⟨n0, n1⟩ := bN4.two; have hnl4 := bN4.lt; have hP4 := hP3.at hb; obtain ⟨b0, b1, b2⟩ := HBX.out _ hb4)
    | (go_at_call 47; refine (HT.out _ hP4).mono ?_; rintro e w5 ⟨rfl, hb⟩; have hb5 := hb4.trans (hb.mono hb4.size); have bN5 := bN4.below hb hnl4; obtain ⟨n0, n1⟩ := bN5.two; have hP5 := hP4.at hb; have hR5 := hR4.at hb; obtain ⟨b0, b1, b2⟩ := HBX.out _ hb5))
  have HR := Lib.hid hR5
  have HP := Lib.hid hP5
  have HB5 := Lib.hid hb5
  clear b0 b1 b2 a0 a1 a2 g0 g1 n0 n1 hR5 hP5 hR4 hP4 hP3 hP2
  go_loopw [8] (fun i wr => ∃ j : Nat, j ≤ ks.length ∧ i = .int .i64 j ∧ alltwo ((ks.take j).map (okind vs xs)) = true ∧ Below w5.heap.size w5 wr) (fun i _ => ks.length - (intOf i).toNat)
  case atStart => exact ⟨0, by omega, rfl, rfl, Below.refl _ _⟩
  case round =>
    obtain ⟨j, hj, rfl, hs, hB⟩ := hrel
    have hBw := hB0.trans ((HB5.out.trans (hB.mono HB5.out.size)).mono hB0.size)
    by_cases hlt : j < ks.length
    · obtain ⟨q, hqj⟩ : ∃ q, ks[j]? = some q := ⟨_, List.getElem?_eq_getElem hlt⟩
      obtain ⟨ad1, rfl, hbk1, k0⟩ := (HR.out.at hB) j q hqj
      have hO := Lib.hid (fun W (hW : (⟨ps, A, c, vs, some ad, e, xs⟩ : Prg).Ok W) => show Calls Try.prog 37 #[.agg #[.int .i64 ps, .slice A vs.length c, .slice (some ad) xs.length e], .int .i64 q] W (fun e w' => e = .returned (.int .i64 (okind vs xs q)) ∧ Below W.heap.size W w') from HAS.out.of q (List.mem_of_getElem? hqj) W hW)
      have HCC := Lib.hid (fun W (h : Below w5.heap.size w5 W) => (show W.cell? ⟨w.heap.size, 0, none⟩ = some (.int .i64 ps) ∧ W.cell? ⟨w.heap.size, 1, none⟩ = some (.slice A vs.length c) ∧ W.cell? ⟨w.heap.size, 2, none⟩ = some (.slice (some ad) xs.length e) ∧ W.cell? (ad1.add j) = some (.int .i64 q) from by
        obtain ⟨q1, q2, q3⟩ := HBX.out _ (HB5.out.trans (h.mono HB5.out.size))
        obtain ⟨_, q4, _, q5⟩ := (HR.out.at h) j q hqj
        cases q4
        exact ⟨q1, q2, q3, q5⟩))
      have hPj := HP.out.at hB
      have hC := HCC.out _ hB
      have i5 : (j : Int) < (ks.length : Int) := by omega
      have i6 : (0 : Int) ≤ (j : Int) := by omega
      have hLL := HLEN.out
      by_cases he : okind vs xs q = 2
      · have HS := Lib.hid (show alltwo ((ks.take (j + 1)).map (okind vs xs)) = true by rw [take_snoc ks j q hqj, List.map_append]; unfold alltwo at hs ⊢; rw [List.all_append, hs]; simp [he])
        rw [he] at hO
        clear hs hqj he
        go_wp2_with fail
        go_region_held3 (fun w' => w'.cell? ⟨w.heap.size, 0, none⟩ = some (.int .i64 ps) ∧ w'.cell? ⟨w.heap.size, 1, none⟩ = some (.slice A vs.length c) ∧ w'.cell? ⟨w.heap.size, 2, none⟩ = some (.slice (some ad) xs.length e) ∧ w'.cell? (ad1.add j) = some (.int .i64 q)) (exact hC) (first
            | (go_at_call 37; refine (hO.out _ (hPj.drew)).mono ?_; rintro e w9 ⟨rfl, hb⟩; have hBB := (hB.drew).trans (hb.mono hB.size); have hC := HCC.out _ hBB)
            | fail)
        go_wp2_with fail
        go_roundw
        case rel => exact ⟨j + 1, by omega, by go_num, HS.out, hBB⟩
        case measure => simp [intOf]; omega
      · have HF := Lib.hid (show ifso (alltwo (ks.map (okind vs xs)) = true) 2 = -1 by
          unfold ifso
          rw [if_neg]
          intro h
          unfold alltwo at h
          rw [List.all_eq_true] at h
          have := h _ (List.mem_map.2 ⟨q, List.mem_of_getElem? hqj, rfl⟩)
          exact he (by simpa using this))
        obtain ⟨z, hz⟩ : ∃ z, okind vs xs q = z := ⟨_, rfl⟩
        rw [hz] at hO he
        have e2 : (z == 2) = false := by simpa using he
        have e3 : (z != 2) = true := by simpa using he
        clear hs hqj he hz
        go_wp2_with fail
        go_region_held3 (fun w' => w'.cell? ⟨w.heap.size, 0, none⟩ = some (.int .i64 ps) ∧ w'.cell? ⟨w.heap.size, 1, none⟩ = some (.slice A vs.length c) ∧ w'.cell? ⟨w.heap.size, 2, none⟩ = some (.slice (some ad) xs.length e) ∧ w'.cell? (ad1.add j) = some (.int .i64 q)) (exact hC) (first
            | (go_at_call 37; refine (hO.out _ (hPj.drew)).mono ?_; rintro e w9 ⟨rfl, hb⟩; have hBB := (hB.drew).trans (hb.mono hB.size); have hC := HCC.out _ hBB)
            | fail)
        go_wp2_with fail
        go_ret
        exact ⟨by rw [HF.out]; rfl, hB0.trans ((HB5.out.trans (hBB.mono HB5.out.size)).mono hB0.size)⟩
    · have hk9 : j = ks.length := by omega
      subst hk9
      rw [List.take_length] at hs
      have HF := Lib.hid (show ifso (alltwo (ks.map (okind vs xs)) = true) 2 = 2 by unfold ifso; rw [if_pos hs])
      have i5 : ¬ (ks.length : Int) < (ks.length : Int) := by omega
      clear hs
      go_wp2
      go_ret
      exact ⟨by rw [HF.out]; rfl, hBw⟩

set_option maxRecDepth 100000 in
set_option maxHeartbeats 2000000 in
theorem of_21 (p : Prg) (k : Nat) (n : Int) (ks : List Int) (w : World) (hp : p.Ok w) (hN : NodeAt p k 21 n ks) (hA : Asks p ks) :
    Calls Try.prog 37 #[.agg #[.int .i64 p.ps, .slice p.A p.vs.length p.c, .slice p.B p.xs.length p.e], .int .i64 k] w fun e w' => e = .returned (.int .i64 (ifso ((vtyp p.vs n = 0 ∨ vtyp p.vs n = 1) ∧ ks.map (okind p.vs p.xs) = [vtyp p.vs n]) 2)) ∧ Below w.heap.size w w' := by
  obtain ⟨ad, hB1, -, -, -⟩ := hp.body k _ hN.node
  obtain ⟨ps, A, c, vs, B, e, xs⟩ := p
  simp only at hB1
  subst hB1
  have hB0 : Below w.heap.size w (w.alloc (.cells #[.int .i64 ps, .slice A vs.length c, .slice (some ad) xs.length e] 25)) := (Below.refl _ _).alloc (Nat.le_refl _) _
  have bX := Blk.new w 25 #[.int .i64 ps, .slice A vs.length c, .slice (some ad) xs.length e]
  have hgl : w.heap.size < (w.alloc (.cells #[.int .i64 ps, .slice A vs.length c, .slice (some ad) xs.length e] 25)).heap.size := bX.lt
  have HBX := Lib.hid (fun W (h : Below (w.alloc (.cells #[.int .i64 ps, .slice A vs.length c, .slice (some ad) xs.length e] 25)).heap.size (w.alloc (.cells #[.int .i64 ps, .slice A vs.length c, .slice (some ad) xs.length e] 25)) W) => (bX.below h hgl).three)
  have HX := Lib.hid (hp.at hB0)
  have hlx : xs.length ≤ 1000000 := hp.lx
  obtain ⟨E, hE⟩ := Int.eq_ofNat_of_zero_le hN.ends
  have hks := hN.kids
  simp only at hE hks
  have HE := Lib.hid (fun W (hW : Nodes W W.heap.size (some ad) xs) => ref_End_any (some ad) e xs (k : Int) W hW hlx)
  rw [hE] at HE
  have HK := Lib.hid (fun W (hW : Nodes W W.heap.size (some ad) xs) => (ref_Kids_any (some ad) e xs (k : Int) W hW hlx).mono (fun _ _ h => h.ints))
  rw [hks] at HK
  have HT := Lib.hid (fun W (hW : Prg.Ok ⟨ps, A, c, vs, some ad, e, xs⟩ W) => ref_typed_any ⟨ps, A, c, vs, some ad, e, xs⟩ n W hW)
  have hn : xs[k]? = some (21, n) := hN.node
  have HBD := Lib.hid (fun W (hW : Nodes W W.heap.size (some ad) xs) => show W.cell? (ad.add (k * 2)) = some (.int .i64 21) ∧ W.cell? ⟨(ad.add (k * 2)).block, (ad.add (k * 2)).off + 1, none⟩ = some (.int .i64 n) from by
    obtain ⟨_, q, -, q1, q2⟩ := hW k _ hn
    cases q
    exact ⟨q1, q2⟩)
  have i1 : (k : Int) < (xs.length : Int) := by have := (List.getElem?_eq_some_iff.1 hn).1; omega
  have i2 : (0 : Int) ≤ (k : Int) := by omega
  have i3 : ¬ (E : Int) < 0 := by omega
  have HAS := Lib.hid hA
  obtain ⟨t, ht⟩ : ∃ t, vtyp vs n = t := ⟨_, rfl⟩
  simp only [ht] at HT ⊢
  clear hN hA hn hE hks hp bX ht
  obtain ⟨b0, b1, b2⟩ := HBX.out _ (Below.refl _ _)
  have HKD := Lib.hid (fun b k W => ref_kind_any b k W)
  by_cases h0 : t = 0
  · subst h0
    have HF := Lib.hid (show ifso (((0 : Int) = 0 ∨ (0 : Int) = 1) ∧ ks.map (okind vs xs) = [0]) 2 = ifso (ks.map (okind vs xs) = [0]) 2 from ifso_iff ⟨fun h => h.2, fun h => ⟨by decide, h⟩⟩ _)
    have HALL := Lib.hid (fun W A1 c1 g (hW : (⟨ps, A, c, vs, some ad, e, xs⟩ : Prg).Ok W) (hR : IRow W W.heap.size A1 ks) (hg : Blk W g 3 #[.int .i64 0]) => show Calls Try.prog 49 #[.agg #[.int .i64 ps, .slice A vs.length c, .slice (some ad) xs.length e], .slice A1 ks.length c1, .slice (some ⟨g, 0, none⟩) 1 1] W _ from ref_all_any (⟨ps, A, c, vs, some ad, e, xs⟩ : Prg) (okind vs xs) A1 c1 ks (some ⟨g, 0, none⟩) 1 [0] W hW HAS.out.of hR (IRow.one g [0] hg hg.lt) (by have := HAS.out.len; omega) (by decide))
    obtain ⟨b, hb0⟩ : ∃ b, decide (ks.map (okind vs xs) = [0]) = b := ⟨_, rfl⟩
    rw [hb0] at HALL
    have HBB := Lib.hid hb0
    clear hb0
    go_enter Try.func37, Try.ntmps37
    go_wp2_with (first
      | (go_at_call 36; refine (HE.out _ HX.out.body).mono ?_; rintro e w2 ⟨rfl, hb2⟩; have hP2 := HX.out.at hb2; obtain ⟨a0, a1, a2⟩ := HBX.out _ hb2; obtain ⟨g0, g1⟩ := HBD.out _ hP2.body; have hn3 : Below w2.heap.size w2 (w2.alloc (.cells #[.int .i64 21, .int .i64 n] 39)) := (Below.refl _ _).alloc (Nat.le_refl _) _; have hb3 := hb2.trans (hn3.mono hb2.size); have bN := Blk.new w2 39 #[.int .i64 21, .int .i64 n]; have hnl := bN.lt; have hP3 := hP2.at hn3; obtain ⟨b0, b1, b2⟩ := HBX.out _ hb3)
      | (go_at_call 38; refine (HK.out _ hP3.body).mono ?_; rintro e w4 ⟨hb, A1, c1, rfl, hR4, -⟩; have hb4 := hb3.trans (hb.mono hb3.size); have bN4 := bN.below hb hnl; obtain ⟨n0, n1⟩ := bN4.two; have hnl4 := bN4.lt; have hP4 := hP3.at hb; obtain ⟨b0, b1, b2⟩ := HBX.out _ hb4)
      | (go_at_call 47; refine (HT.out _ hP4).mono ?_; rintro e w5 ⟨rfl, hb⟩; have hb5 := hb4.trans (hb.mono hb4.size); have bN5 := bN4.below hb hnl4; obtain ⟨n0, n1⟩ := bN5.two; have hP5 := hP4.at hb; have hR5 := hR4.at hb; obtain ⟨b0, b1, b2⟩ := HBX.out _ hb5)
      | (go_at_call 49; have hn6 : Below w5.heap.size w5 (w5.alloc (.cells #[.int .i64 0] 3)) := (Below.refl _ _).alloc (Nat.le_refl _) _; refine (HALL.out _ _ _ _ (hP5.at hn6) (hR5.at hn6) (Blk.new w5 3 #[.int .i64 0])).mono ?_; rintro e w7 ⟨rfl, hb⟩; have hb7 := (hb5.trans (hn6.mono hb5.size)).trans (hb.mono (Nat.le_trans hb5.size hn6.size)))
      | (go_at_call 48; refine (HKD.out _ _ _).mono ?_; rintro e w8 ⟨rfl, rfl⟩))
    go_ret
    exact ⟨by rw [HF.out]; show Ending.returned (Value.int .i64 (ifso (b = true) 2)) = _; rw [← HBB.out, ifso_dec], hB0.trans (hb7.mono hB0.size)⟩
  by_cases h1 : t = 1
  · subst h1
    have HF := Lib.hid (show ifso (((1 : Int) = 0 ∨ (1 : Int) = 1) ∧ ks.map (okind vs xs) = [1]) 2 = ifso (ks.map (okind vs xs) = [1]) 2 from ifso_iff ⟨fun h => h.2, fun h => ⟨by decide, h⟩⟩ _)
    have HALL := Lib.hid (fun W A1 c1 g (hW : (⟨ps, A, c, vs, some ad, e, xs⟩ : Prg).Ok W) (hR : IRow W W.heap.size A1 ks) (hg : Blk W g 3 #[.int .i64 1]) => show Calls Try.prog 49 #[.agg #[.int .i64 ps, .slice A vs.length c, .slice (some ad) xs.length e], .slice A1 ks.length c1, .slice (some ⟨g, 0, none⟩) 1 1] W _ from ref_all_any (⟨ps, A, c, vs, some ad, e, xs⟩ : Prg) (okind vs xs) A1 c1 ks (some ⟨g, 0, none⟩) 1 [1] W hW HAS.out.of hR (IRow.one g [1] hg hg.lt) (by have := HAS.out.len; omega) (by decide))
    obtain ⟨b, hb0⟩ : ∃ b, decide (ks.map (okind vs xs) = [1]) = b := ⟨_, rfl⟩
    rw [hb0] at HALL
    have HBB := Lib.hid hb0
    clear hb0
    go_enter Try.func37, Try.ntmps37
    go_wp2_with (first
      | (go_at_call 36; refine (HE.out _ HX.out.body).mono ?_; rintro e w2 ⟨rfl, hb2⟩; have hP2 := HX.out.at hb2; obtain ⟨a0, a1, a2⟩ := HBX.out _ hb2; obtain ⟨g0, g1⟩ := HBD.out _ hP2.body; have hn3 : Below w2.heap.size w2 (w2.alloc (.cells #[.int .i64 21, .int .i64 n] 39)) := (Below.refl _ _).alloc (Nat.le_refl _) _; have hb3 := hb2.trans (hn3.mono hb2.size); have bN := Blk.new w2 39 #[.int .i64 21, .int .i64 n]; have hnl := bN.lt; have hP3 := hP2.at hn3; obtain ⟨b0, b1, b2⟩ := HBX.out _ hb3)
      | (go_at_call 38; refine (HK.out _ hP3.body).mono ?_; rintro e w4 ⟨hb, A1, c1, rfl, hR4, -⟩; have hb4 := hb3.trans (hb.mono hb3.size); have bN4 := bN.below hb hnl; obtain ⟨n0, n1⟩ := bN4.two; have hnl4 := bN4.lt; have hP4 := hP3.at hb; obtain ⟨b0, b1, b2⟩ := HBX.out _ hb4)
      | (go_at_call 47; refine (HT.out _ hP4).mono ?_; rintro e w5 ⟨rfl, hb⟩; have hb5 := hb4.trans (hb.mono hb4.size); have bN5 := bN4.below hb hnl4; obtain ⟨n0, n1⟩ := bN5.two; have hP5 := hP4.at hb; have hR5 := hR4.at hb; obtain ⟨b0, b1, b2⟩ := HBX.out _ hb5)
      | (go_at_call 49; have hn6 : Below w5.heap.size w5 (w5.alloc (.cells #[.int .i64 1] 3)) := (Below.refl _ _).alloc (Nat.le_refl _) _; refine (HALL.out _ _ _ _ (hP5.at hn6) (hR5.at hn6) (Blk.new w5 3 #[.int .i64 1])).mono ?_; rintro e w7 ⟨rfl, hb⟩; have hb7 := (hb5.trans (hn6.mono hb5.size)).trans (hb.mono (Nat.le_trans hb5.size hn6.size)))
      | (go_at_call 48; refine (HKD.out _ _ _).mono ?_; rintro e w8 ⟨rfl, rfl⟩))
    go_ret
    exact ⟨by rw [HF.out]; show Ending.returned (Value.int .i64 (ifso (b = true) 2)) = _; rw [← HBB.out, ifso_dec], hB0.trans (hb7.mono hB0.size)⟩
  have e0 : (t == 0) = false := by simpa using h0
  have e1 : (t == 1) = false := by simpa using h1
  have HF := Lib.hid (show ifso ((t = 0 ∨ t = 1) ∧ ks.map (okind vs xs) = [t]) 2 = -1 by unfold ifso; rw [if_neg (by omega)])
  go_enter Try.func37, Try.ntmps37
  go_wp2_with (first
    | (go_at_call 36; refine (HE.out _ HX.out.body).mono ?_; rintro e w2 ⟨rfl, hb2⟩; have hP2 := HX.out.at hb2; obtain ⟨a0, a1, a2⟩ := HBX.out _ hb2; obtain ⟨g0, g1⟩ := HBD.out _ hP2.body; have hn3 : Below w2.heap.size w2 (w2.alloc (.cells #[.int .i64 21, .int .i64 n] 39)) := (Below.refl _ _).alloc (Nat.le_refl _) _; have hb3 := hb2.trans (hn3.mono hb2.size); have bN := Blk.new w2 39 #[.int .i64 21, .int .i64 n]; have hnl := bN.lt; have hP3 := hP2.at hn3; obtain ⟨b0, b1, b2⟩ := HBX.out _ hb3)
    | (go_at_call 38; refine (HK.out _ hP3.body).mono ?_; rintro e w4 ⟨hb, A1, c1, rfl, hR4, -⟩; have hb4 := hb3.trans (hb.mono hb3.size); have bN4 := bN.below hb hnl; obtain ⟨n0, n1⟩ := bN4.two; have hnl4 := bN4.lt; have hP4 := hP3.at hb; obtain ⟨b0, b1, b2⟩ := HBX.out _ hb4)
    | (go_at_call 47; refine (HT.out _ hP4).mono ?_; rintro e w5 ⟨rfl, hb⟩; have hb5 := hb4.trans (hb.mono hb4.size); have bN5 := bN4.below hb hnl4; obtain ⟨n0, n1⟩ := bN5.two; have hP5 := hP4.at hb; have hR5 := hR4.at hb; obtain ⟨b0, b1, b2⟩ := HBX.out _ hb5)
    | (go_at_call 48; refine (HKD.out _ _ _).mono ?_; rintro e w8 ⟨rfl, rfl⟩))
  go_ret
  exact ⟨by rw [HF.out]; rfl, hB0.trans (hb5.mono hB0.size)⟩
set_option maxRecDepth 100000 in
set_option maxHeartbeats 2000000 in
theorem of_22 (p : Prg) (k : Nat) (n : Int) (ks : List Int) (w : World) (hp : p.Ok w) (hN : NodeAt p k 22 n ks) (hA : Asks p ks) :
    Calls Try.prog 37 #[.agg #[.int .i64 p.ps, .slice p.A p.vs.length p.c, .slice p.B p.xs.length p.e], .int .i64 k] w fun e w' => e = .returned (.int .i64 (ifso (0 < asz (vtyp p.vs n) ∧ ks.map (okind p.vs p.xs) = [0, 0]) 2)) ∧ Below w.heap.size w w' := by
  obtain ⟨ad, hB1, -, -, -⟩ := hp.body k _ hN.node
  obtain ⟨ps, A, c, vs, B, e, xs⟩ := p
  simp only at hB1
  subst hB1
  have hB0 : Below w.heap.size w (w.alloc (.cells #[.int .i64 ps, .slice A vs.length c, .slice (some ad) xs.length e] 25)) := (Below.refl _ _).alloc (Nat.le_refl _) _
  have bX := Blk.new w 25 #[.int .i64 ps, .slice A vs.length c, .slice (some ad) xs.length e]
  have hgl : w.heap.size < (w.alloc (.cells #[.int .i64 ps, .slice A vs.length c, .slice (some ad) xs.length e] 25)).heap.size := bX.lt
  have HBX := Lib.hid (fun W (h : Below (w.alloc (.cells #[.int .i64 ps, .slice A vs.length c, .slice (some ad) xs.length e] 25)).heap.size (w.alloc (.cells #[.int .i64 ps, .slice A vs.length c, .slice (some ad) xs.length e] 25)) W) => (bX.below h hgl).three)
  have HX := Lib.hid (hp.at hB0)
  have hlx : xs.length ≤ 1000000 := hp.lx
  obtain ⟨E, hE⟩ := Int.eq_ofNat_of_zero_le hN.ends
  have hks := hN.kids
  simp only at hE hks
  have HE := Lib.hid (fun W (hW : Nodes W W.heap.size (some ad) xs) => ref_End_any (some ad) e xs (k : Int) W hW hlx)
  rw [hE] at HE
  have HK := Lib.hid (fun W (hW : Nodes W W.heap.size (some ad) xs) => (ref_Kids_any (some ad) e xs (k : Int) W hW hlx).mono (fun _ _ h => h.ints))
  rw [hks] at HK
  have HT := Lib.hid (fun W (hW : Prg.Ok ⟨ps, A, c, vs, some ad, e, xs⟩ W) => ref_typed_any ⟨ps, A, c, vs, some ad, e, xs⟩ n W hW)
  have hn : xs[k]? = some (22, n) := hN.node
  have HBD := Lib.hid (fun W (hW : Nodes W W.heap.size (some ad) xs) => show W.cell? (ad.add (k * 2)) = some (.int .i64 22) ∧ W.cell? ⟨(ad.add (k * 2)).block, (ad.add (k * 2)).off + 1, none⟩ = some (.int .i64 n) from by
    obtain ⟨_, q, -, q1, q2⟩ := hW k _ hn
    cases q
    exact ⟨q1, q2⟩)
  have i1 : (k : Int) < (xs.length : Int) := by have := (List.getElem?_eq_some_iff.1 hn).1; omega
  have i2 : (0 : Int) ≤ (k : Int) := by omega
  have i3 : ¬ (E : Int) < 0 := by omega
  have HAS := Lib.hid hA
  obtain ⟨t, ht⟩ : ∃ t, vtyp vs n = t := ⟨_, rfl⟩
  simp only [ht] at HT ⊢
  clear hN hA hn hE hks hp bX ht
  obtain ⟨b0, b1, b2⟩ := HBX.out _ (Below.refl _ _)
  have HKD := Lib.hid (fun b k W => ref_kind_any b k W)
  have HSZ := Lib.hid (fun W => ref_Size_any t W)
  obtain ⟨z, hz⟩ : ∃ z, asz t = z := ⟨_, rfl⟩
  rw [hz] at HSZ ⊢
  clear hz
  by_cases hz0 : 0 < z
  · have HF := Lib.hid (show ifso (0 < z ∧ ks.map (okind vs xs) = [0, 0]) 2 = ifso (ks.map (okind vs xs) = [0, 0]) 2 from ifso_iff ⟨fun h => h.2, fun h => ⟨hz0, h⟩⟩ _)
    have HALL := Lib.hid (fun W A1 c1 g (hW : (⟨ps, A, c, vs, some ad, e, xs⟩ : Prg).Ok W) (hR : IRow W W.heap.size A1 ks) (hg : Blk W g 3 #[.int .i64 0, .int .i64 0]) => show Calls Try.prog 49 #[.agg #[.int .i64 ps, .slice A vs.length c, .slice (some ad) xs.length e], .slice A1 ks.length c1, .slice (some ⟨g, 0, none⟩) 2 2] W _ from ref_all_any (⟨ps, A, c, vs, some ad, e, xs⟩ : Prg) (okind vs xs) A1 c1 ks (some ⟨g, 0, none⟩) 2 [0, 0] W hW HAS.out.of hR (IRow.one g [0, 0] hg hg.lt) (by have := HAS.out.len; omega) (by decide))
    obtain ⟨b, hb0⟩ : ∃ b, decide (ks.map (okind vs xs) = [0, 0]) = b := ⟨_, rfl⟩
    rw [hb0] at HALL
    have HBB := Lib.hid hb0
    clear hb0
    go_enter Try.func37, Try.ntmps37
    go_wp2_with (first
      | (go_at_call 36; refine (HE.out _ HX.out.body).mono ?_; rintro e w2 ⟨rfl, hb2⟩; have hP2 := HX.out.at hb2; obtain ⟨a0, a1, a2⟩ := HBX.out _ hb2; obtain ⟨g0, g1⟩ := HBD.out _ hP2.body; have hn3 : Below w2.heap.size w2 (w2.alloc (.cells #[.int .i64 22, .int .i64 n] 39)) := (Below.refl _ _).alloc (Nat.le_refl _) _; have hb3 := hb2.trans (hn3.mono hb2.size); have bN := Blk.new w2 39 #[.int .i64 22, .int .i64 n]; have hnl := bN.lt; have hP3 := hP2.at hn3; obtain ⟨b0, b1, b2⟩ := HBX.out _ hb3)
      | (go_at_call 38; refine (HK.out _ hP3.body).mono ?_; rintro e w4 ⟨hb, A1, c1, rfl, hR4, -⟩; have hb4 := hb3.trans (hb.mono hb3.size); have bN4 := bN.below hb hnl; obtain ⟨n0, n1⟩ := bN4.two; have hnl4 := bN4.lt; have hP4 := hP3.at hb; obtain ⟨b0, b1, b2⟩ := HBX.out _ hb4)
      | (go_at_call 47; refine (HT.out _ hP4).mono ?_; rintro e w5 ⟨rfl, hb⟩; have hb5 := hb4.trans (hb.mono hb4.size); have bN5 := bN4.below hb hnl4; obtain ⟨n0, n1⟩ := bN5.two; have hP5 := hP4.at hb; have hR5 := hR4.at hb; obtain ⟨b0, b1, b2⟩ := HBX.out _ hb5)
      | (go_at_call 22; refine (HSZ.out _).mono ?_; rintro e w5 ⟨rfl, rfl⟩)
      | (go_at_call 49; have hn6 : Below w5.heap.size w5 (w5.alloc (.cells #[.int .i64 0, .int .i64 0] 3)) := (Below.refl _ _).alloc (Nat.le_refl _) _; refine (HALL.out _ _ _ _ (hP5.at hn6) (hR5.at hn6) (Blk.new w5 3 #[.int .i64 0, .int .i64 0])).mono ?_; rintro e w7 ⟨rfl, hb⟩; have hb7 := (hb5.trans (hn6.mono hb5.size)).trans (hb.mono (Nat.le_trans hb5.size hn6.size)))
      | (go_at_call 48; refine (HKD.out _ _ _).mono ?_; rintro e w8 ⟨rfl, rfl⟩))
    go_ret
    exact ⟨by rw [HF.out]; show Ending.returned (Value.int .i64 (ifso (b = true) 2)) = _; rw [← HBB.out, ifso_dec], hB0.trans (hb7.mono hB0.size)⟩
  · have HF := Lib.hid (show ifso (0 < z ∧ ks.map (okind vs xs) = [0, 0]) 2 = -1 by unfold ifso; rw [if_neg (fun h => hz0 h.1)])
    go_enter Try.func37, Try.ntmps37
    go_wp2_with (first
      | (go_at_call 36; refine (HE.out _ HX.out.body).mono ?_; rintro e w2 ⟨rfl, hb2⟩; have hP2 := HX.out.at hb2; obtain ⟨a0, a1, a2⟩ := HBX.out _ hb2; obtain ⟨g0, g1⟩ := HBD.out _ hP2.body; have hn3 : Below w2.heap.size w2 (w2.alloc (.cells #[.int .i64 22, .int .i64 n] 39)) := (Below.refl _ _).alloc (Nat.le_refl _) _; have hb3 := hb2.trans (hn3.mono hb2.size); have bN := Blk.new w2 39 #[.int .i64 22, .int .i64 n]; have hnl := bN.lt; have hP3 := hP2.at hn3; obtain ⟨b0, b1, b2⟩ := HBX.out _ hb3)
      | (go_at_call 38; refine (HK.out _ hP3.body).mono ?_; rintro e w4 ⟨hb, A1, c1, rfl, hR4, -⟩; have hb4 := hb3.trans (hb.mono hb3.size); have bN4 := bN.below hb hnl; obtain ⟨n0, n1⟩ := bN4.two; have hnl4 := bN4.lt; have hP4 := hP3.at hb; obtain ⟨b0, b1, b2⟩ := HBX.out _ hb4)
      | (go_at_call 47; refine (HT.out _ hP4).mono ?_; rintro e w5 ⟨rfl, hb⟩; have hb5 := hb4.trans (hb.mono hb4.size); have bN5 := bN4.below hb hnl4; obtain ⟨n0, n1⟩ := bN5.two; have hP5 := hP4.at hb; have hR5 := hR4.at hb; obtain ⟨b0, b1, b2⟩ := HBX.out _ hb5)
      | (go_at_call 22; refine (HSZ.out _).mono ?_; rintro e w5 ⟨rfl, rfl⟩)
      | (go_at_call 48; refine (HKD.out _ _ _).mono ?_; rintro e w8 ⟨rfl, rfl⟩))
    go_ret
    exact ⟨by rw [HF.out]; rfl, hB0.trans (hb5.mono hB0.size)⟩
set_option maxRecDepth 100000 in
set_option maxHeartbeats 2000000 in
theorem of_23 (p : Prg) (k : Nat) (n : Int) (ks : List Int) (w : World) (hp : p.Ok w) (hN : NodeAt p k 23 n ks) (hA : Asks p ks) :
    Calls Try.prog 37 #[.agg #[.int .i64 p.ps, .slice p.A p.vs.length p.c, .slice p.B p.xs.length p.e], .int .i64 k] w fun e w' => e = .returned (.int .i64 (ifso (ks.map (okind p.vs p.xs) = [1, 2, 2] ∧ tags p.xs (ks.drop 1) = true) 2)) ∧ Below w.heap.size w w' := by
  obtain ⟨ad, hB1, -, -, -⟩ := hp.body k _ hN.node
  obtain ⟨ps, A, c, vs, B, e, xs⟩ := p
  simp only at hB1
  subst hB1
  have hB0 : Below w.heap.size w (w.alloc (.cells #[.int .i64 ps, .slice A vs.length c, .slice (some ad) xs.length e] 25)) := (Below.refl _ _).alloc (Nat.le_refl _) _
  have bX := Blk.new w 25 #[.int .i64 ps, .slice A vs.length c, .slice (some ad) xs.length e]
  have hgl : w.heap.size < (w.alloc (.cells #[.int .i64 ps, .slice A vs.length c, .slice (some ad) xs.length e] 25)).heap.size := bX.lt
  have HBX := Lib.hid (fun W (h : Below (w.alloc (.cells #[.int .i64 ps, .slice A vs.length c, .slice (some ad) xs.length e] 25)).heap.size (w.alloc (.cells #[.int .i64 ps, .slice A vs.length c, .slice (some ad) xs.length e] 25)) W) => (bX.below h hgl).three)
  have HX := Lib.hid (hp.at hB0)
  have hlx : xs.length ≤ 1000000 := hp.lx
  obtain ⟨E, hE⟩ := Int.eq_ofNat_of_zero_le hN.ends
  have hks := hN.kids
  simp only at hE hks
  have HE := Lib.hid (fun W (hW : Nodes W W.heap.size (some ad) xs) => ref_End_any (some ad) e xs (k : Int) W hW hlx)
  rw [hE] at HE
  have HK := Lib.hid (fun W (hW : Nodes W W.heap.size (some ad) xs) => (ref_Kids_any (some ad) e xs (k : Int) W hW hlx).mono (fun _ _ h => h.ints))
  rw [hks] at HK
  have HT := Lib.hid (fun W (hW : Prg.Ok ⟨ps, A, c, vs, some ad, e, xs⟩ W) => ref_typed_any ⟨ps, A, c, vs, some ad, e, xs⟩ n W hW)
  have hn : xs[k]? = some (23, n) := hN.node
  have HBD := Lib.hid (fun W (hW : Nodes W W.heap.size (some ad) xs) => show W.cell? (ad.add (k * 2)) = some (.int .i64 23) ∧ W.cell? ⟨(ad.add (k * 2)).block, (ad.add (k * 2)).off + 1, none⟩ = some (.int .i64 n) from by
    obtain ⟨_, q, -, q1, q2⟩ := hW k _ hn
    cases q
    exact ⟨q1, q2⟩)
  have i1 : (k : Int) < (xs.length : Int) := by have := (List.getElem?_eq_some_iff.1 hn).1; omega
  have i2 : (0 : Int) ≤ (k : Int) := by omega
  have i3 : ¬ (E : Int) < 0 := by omega
  have HAS := Lib.hid hA
  obtain ⟨t, ht⟩ : ∃ t, vtyp vs n = t := ⟨_, rfl⟩
  simp only [ht] at HT
  clear hN hA hn hE hks hp bX ht
  obtain ⟨b0, b1, b2⟩ := HBX.out _ (Below.refl _ _)
  have HKD := Lib.hid (fun b k W => ref_kind_any b k W)
  have HALL := Lib.hid (fun W A1 c1 g (hW : (⟨ps, A, c, vs, some ad, e, xs⟩ : Prg).Ok W) (hR : IRow W W.heap.size A1 ks) (hg : Blk W g 3 #[.int .i64 1, .int .i64 2, .int .i64 2]) => show Calls Try.prog 49 #[.agg #[.int .i64 ps, .slice A vs.length c, .slice (some ad) xs.length e], .slice A1 ks.length c1, .slice (some ⟨g, 0, none⟩) 3 3] W _ from ref_all_any (⟨ps, A, c, vs, some ad, e, xs⟩ : Prg) (okind vs xs) A1 c1 ks (some ⟨g, 0, none⟩) 3 [1, 2, 2] W hW HAS.out.of hR (IRow.one g [1, 2, 2] hg hg.lt) (by have := HAS.out.len; omega) (by decide))
  obtain ⟨b, hb0⟩ : ∃ b, decide (ks.map (okind vs xs) = [1, 2, 2]) = b := ⟨_, rfl⟩
  rw [hb0] at HALL
  have HBB := Lib.hid hb0
  clear hb0
  cases b
  · have HF := Lib.hid (show ifso (ks.map (okind vs xs) = [1, 2, 2] ∧ tags xs (ks.drop 1) = true) 2 = -1 by unfold ifso; rw [if_neg (fun h => (of_decide_eq_false HBB.out) h.1)])
    go_enter Try.func37, Try.ntmps37
    go_wp2_with (first
      | (go_at_call 36; refine (HE.out _ HX.out.body).mono ?_; rintro e w2 ⟨rfl, hb2⟩; have hP2 := HX.out.at hb2; obtain ⟨a0, a1, a2⟩ := HBX.out _ hb2; obtain ⟨g0, g1⟩ := HBD.out _ hP2.body; have hn3 : Below w2.heap.size w2 (w2.alloc (.cells #[.int .i64 23, .int .i64 n] 39)) := (Below.refl _ _).alloc (Nat.le_refl _) _; have hb3 := hb2.trans (hn3.mono hb2.size); have bN := Blk.new w2 39 #[.int .i64 23, .int .i64 n]; have hnl := bN.lt; have hP3 := hP2.at hn3; obtain ⟨b0, b1, b2⟩ := HBX.out _ hb3)
      | (go_at_call 38; refine (HK.out _ hP3.body).mono ?_; rintro e w4 ⟨hb, A1, c1, rfl, hR4, -⟩; have hb4 := hb3.trans (hb.mono hb3.size); have bN4 := bN.below hb hnl; obtain ⟨n0, n1⟩ := bN4.two; have hnl4 := bN4.lt; have hP4 := hP3.at hb; obtain ⟨b0, b1, b2⟩ := HBX.out _ hb4)
      | (go_at_call 47; refine (HT.out _ hP4).mono ?_; rintro e w5 ⟨rfl, hb⟩; have hb5 := hb4.trans (hb.mono hb4.size); have bN5 := bN4.below hb hnl4; obtain ⟨n0, n1⟩ := bN5.two; have hP5 := hP4.at hb; have hR5 := hR4.at hb; obtain ⟨b0, b1, b2⟩ := HBX.out _ hb5)
      | (go_at_call 49; have hn6 : Below w5.heap.size w5 (w5.alloc (.cells #[.int .i64 1, .int .i64 2, .int .i64 2] 3)) := (Below.refl _ _).alloc (Nat.le_refl _) _; refine (HALL.out _ _ _ _ (hP5.at hn6) (hR5.at hn6) (Blk.new w5 3 #[.int .i64 1, .int .i64 2, .int .i64 2])).mono ?_; rintro e w7 ⟨rfl, hb⟩; have hb7 := (hb5.trans (hn6.mono hb5.size)).trans (hb.mono (Nat.le_trans hb5.size hn6.size)); have hP7 := (hP5.at hn6).at hb; have hR7 := (hR5.at hn6).at hb; obtain ⟨b0, b1, b2⟩ := HBX.out _ hb7)
      | (go_at_call 48; refine (HKD.out _ _ _).mono ?_; rintro e w8 ⟨rfl, rfl⟩))
    go_ret
    exact ⟨by rw [HF.out]; rfl, hB0.trans (hb7.mono hB0.size)⟩
  · have hP := of_decide_eq_true HBB.out
    have hlen : 1 ≤ ks.length := by have := congrArg List.length hP; simp at this; omega
    obtain ⟨T, hT⟩ : ∃ T, tags xs (ks.drop 1) = T := ⟨_, rfl⟩
    have HBL := Lib.hid (fun W A1 c1 (hW : (⟨ps, A, c, vs, some ad, e, xs⟩ : Prg).Ok W) (hR : IRow W W.heap.size A1 ks) => ref_blocks_any (⟨ps, A, c, vs, some ad, e, xs⟩ : Prg) A1 c1 ks W hW HAS.out.inn hR (by have := HAS.out.len; omega) hlen)
    simp only [hT] at HBL ⊢
    have HF := Lib.hid (show ifso (ks.map (okind vs xs) = [1, 2, 2] ∧ T = true) 2 = ifso (T = true) 2 from ifso_iff ⟨fun h => h.2, fun h => ⟨hP, h⟩⟩ _)
    clear hT hP hlen
    go_enter Try.func37, Try.ntmps37
    go_wp2_with (first
      | (go_at_call 36; refine (HE.out _ HX.out.body).mono ?_; rintro e w2 ⟨rfl, hb2⟩; have hP2 := HX.out.at hb2; obtain ⟨a0, a1, a2⟩ := HBX.out _ hb2; obtain ⟨g0, g1⟩ := HBD.out _ hP2.body; have hn3 : Below w2.heap.size w2 (w2.alloc (.cells #[.int .i64 23, .int .i64 n] 39)) := (Below.refl _ _).alloc (Nat.le_refl _) _; have hb3 := hb2.trans (hn3.mono hb2.size); have bN := Blk.new w2 39 #[.int .i64 23, .int .i64 n]; have hnl := bN.lt; have hP3 := hP2.at hn3; obtain ⟨b0, b1, b2⟩ := HBX.out _ hb3)
      | (go_at_call 38; refine (HK.out _ hP3.body).mono ?_; rintro e w4 ⟨hb, A1, c1, rfl, hR4, -⟩; have hb4 := hb3.trans (hb.mono hb3.size); have bN4 := bN.below hb hnl; obtain ⟨n0, n1⟩ := bN4.two; have hnl4 := bN4.lt; have hP4 := hP3.at hb; obtain ⟨b0, b1, b2⟩ := HBX.out _ hb4)
      | (go_at_call 47; refine (HT.out _ hP4).mono ?_; rintro e w5 ⟨rfl, hb⟩; have hb5 := hb4.trans (hb.mono hb4.size); have bN5 := bN4.below hb hnl4; obtain ⟨n0, n1⟩ := bN5.two; have hP5 := hP4.at hb; have hR5 := hR4.at hb; obtain ⟨b0, b1, b2⟩ := HBX.out _ hb5)
      | (go_at_call 49; have hn6 : Below w5.heap.size w5 (w5.alloc (.cells #[.int .i64 1, .int .i64 2, .int .i64 2] 3)) := (Below.refl _ _).alloc (Nat.le_refl _) _; refine (HALL.out _ _ _ _ (hP5.at hn6) (hR5.at hn6) (Blk.new w5 3 #[.int .i64 1, .int .i64 2, .int .i64 2])).mono ?_; rintro e w7 ⟨rfl, hb⟩; have hb7 := (hb5.trans (hn6.mono hb5.size)).trans (hb.mono (Nat.le_trans hb5.size hn6.size)); have hP7 := (hP5.at hn6).at hb; have hR7 := (hR5.at hn6).at hb; obtain ⟨b0, b1, b2⟩ := HBX.out _ hb7)
      | (go_at_call 48; refine (HKD.out _ _ _).mono ?_; rintro e w8 ⟨rfl, rfl⟩)
      | (go_at_call 50; refine (HBL.out _ _ _ hP7 hR7).mono ?_; rintro e w9 ⟨rfl, hb⟩; have hb9 := hb7.trans (hb.mono hb7.size)))
    go_ret
    exact ⟨by rw [HF.out]; rfl, hB0.trans (hb9.mono hB0.size)⟩
set_option maxRecDepth 100000 in
set_option maxHeartbeats 2000000 in
theorem of_24 (p : Prg) (k : Nat) (n : Int) (ks : List Int) (w : World) (hp : p.Ok w) (hN : NodeAt p k 24 n ks) (hA : Asks p ks) :
    Calls Try.prog 37 #[.agg #[.int .i64 p.ps, .slice p.A p.vs.length p.c, .slice p.B p.xs.length p.e], .int .i64 k] w fun e w' => e = .returned (.int .i64 (ifso (ks.map (okind p.vs p.xs) = [1, 2] ∧ tags p.xs (ks.drop 1) = true) 2)) ∧ Below w.heap.size w w' := by
  obtain ⟨ad, hB1, -, -, -⟩ := hp.body k _ hN.node
  obtain ⟨ps, A, c, vs, B, e, xs⟩ := p
  simp only at hB1
  subst hB1
  have hB0 : Below w.heap.size w (w.alloc (.cells #[.int .i64 ps, .slice A vs.length c, .slice (some ad) xs.length e] 25)) := (Below.refl _ _).alloc (Nat.le_refl _) _
  have bX := Blk.new w 25 #[.int .i64 ps, .slice A vs.length c, .slice (some ad) xs.length e]
  have hgl : w.heap.size < (w.alloc (.cells #[.int .i64 ps, .slice A vs.length c, .slice (some ad) xs.length e] 25)).heap.size := bX.lt
  have HBX := Lib.hid (fun W (h : Below (w.alloc (.cells #[.int .i64 ps, .slice A vs.length c, .slice (some ad) xs.length e] 25)).heap.size (w.alloc (.cells #[.int .i64 ps, .slice A vs.length c, .slice (some ad) xs.length e] 25)) W) => (bX.below h hgl).three)
  have HX := Lib.hid (hp.at hB0)
  have hlx : xs.length ≤ 1000000 := hp.lx
  obtain ⟨E, hE⟩ := Int.eq_ofNat_of_zero_le hN.ends
  have hks := hN.kids
  simp only at hE hks
  have HE := Lib.hid (fun W (hW : Nodes W W.heap.size (some ad) xs) => ref_End_any (some ad) e xs (k : Int) W hW hlx)
  rw [hE] at HE
  have HK := Lib.hid (fun W (hW : Nodes W W.heap.size (some ad) xs) => (ref_Kids_any (some ad) e xs (k : Int) W hW hlx).mono (fun _ _ h => h.ints))
  rw [hks] at HK
  have HT := Lib.hid (fun W (hW : Prg.Ok ⟨ps, A, c, vs, some ad, e, xs⟩ W) => ref_typed_any ⟨ps, A, c, vs, some ad, e, xs⟩ n W hW)
  have hn : xs[k]? = some (24, n) := hN.node
  have HBD := Lib.hid (fun W (hW : Nodes W W.heap.size (some ad) xs) => show W.cell? (ad.add (k * 2)) = some (.int .i64 24) ∧ W.cell? ⟨(ad.add (k * 2)).block, (ad.add (k * 2)).off + 1, none⟩ = some (.int .i64 n) from by
    obtain ⟨_, q, -, q1, q2⟩ := hW k _ hn
    cases q
    exact ⟨q1, q2⟩)
  have i1 : (k : Int) < (xs.length : Int) := by have := (List.getElem?_eq_some_iff.1 hn).1; omega
  have i2 : (0 : Int) ≤ (k : Int) := by omega
  have i3 : ¬ (E : Int) < 0 := by omega
  have HAS := Lib.hid hA
  obtain ⟨t, ht⟩ : ∃ t, vtyp vs n = t := ⟨_, rfl⟩
  simp only [ht] at HT
  clear hN hA hn hE hks hp bX ht
  obtain ⟨b0, b1, b2⟩ := HBX.out _ (Below.refl _ _)
  have HKD := Lib.hid (fun b k W => ref_kind_any b k W)
  have HALL := Lib.hid (fun W A1 c1 g (hW : (⟨ps, A, c, vs, some ad, e, xs⟩ : Prg).Ok W) (hR : IRow W W.heap.size A1 ks) (hg : Blk W g 3 #[.int .i64 1, .int .i64 2]) => show Calls Try.prog 49 #[.agg #[.int .i64 ps, .slice A vs.length c, .slice (some ad) xs.length e], .slice A1 ks.length c1, .slice (some ⟨g, 0, none⟩) 2 2] W _ from ref_all_any (⟨ps, A, c, vs, some ad, e, xs⟩ : Prg) (okind vs xs) A1 c1 ks (some ⟨g, 0, none⟩) 2 [1, 2] W hW HAS.out.of hR (IRow.one g [1, 2] hg hg.lt) (by have := HAS.out.len; omega) (by decide))
  obtain ⟨b, hb0⟩ : ∃ b, decide (ks.map (okind vs xs) = [1, 2]) = b := ⟨_, rfl⟩
  rw [hb0] at HALL
  have HBB := Lib.hid hb0
  clear hb0
  cases b
  · have HF := Lib.hid (show ifso (ks.map (okind vs xs) = [1, 2] ∧ tags xs (ks.drop 1) = true) 2 = -1 by unfold ifso; rw [if_neg (fun h => (of_decide_eq_false HBB.out) h.1)])
    go_enter Try.func37, Try.ntmps37
    go_wp2_with (first
      | (go_at_call 36; refine (HE.out _ HX.out.body).mono ?_; rintro e w2 ⟨rfl, hb2⟩; have hP2 := HX.out.at hb2; obtain ⟨a0, a1, a2⟩ := HBX.out _ hb2; obtain ⟨g0, g1⟩ := HBD.out _ hP2.body; have hn3 : Below w2.heap.size w2 (w2.alloc (.cells #[.int .i64 24, .int .i64 n] 39)) := (Below.refl _ _).alloc (Nat.le_refl _) _; have hb3 := hb2.trans (hn3.mono hb2.size); have bN := Blk.new w2 39 #[.int .i64 24, .int .i64 n]; have hnl := bN.lt; have hP3 := hP2.at hn3; obtain ⟨b0, b1, b2⟩ := HBX.out _ hb3)
      | (go_at_call 38; refine (HK.out _ hP3.body).mono ?_; rintro e w4 ⟨hb, A1, c1, rfl, hR4, -⟩; have hb4 := hb3.trans (hb.mono hb3.size); have bN4 := bN.below hb hnl; obtain ⟨n0, n1⟩ := bN4.two; have hnl4 := bN4.lt; have hP4 := hP3.at hb; obtain ⟨b0, b1, b2⟩ := HBX.out _ hb4)
      | (go_at_call 47; refine (HT.out _ hP4).mono ?_; rintro e w5 ⟨rfl, hb⟩; have hb5 := hb4.trans (hb.mono hb4.size); have bN5 := bN4.below hb hnl4; obtain ⟨n0, n1⟩ := bN5.two; have hP5 := hP4.at hb; have hR5 := hR4.at hb; obtain ⟨b0, b1, b2⟩ := HBX.out _ hb5)
      | (go_at_call 49; have hn6 : Below w5.heap.size w5 (w5.alloc (.cells #[.int .i64 1, .int .i64 2] 3)) := (Below.refl _ _).alloc (Nat.le_refl _) _; refine (HALL.out _ _ _ _ (hP5.at hn6) (hR5.at hn6) (Blk.new w5 3 #[.int .i64 1, .int .i64 2])).mono ?_; rintro e w7 ⟨rfl, hb⟩; have hb7 := (hb5.trans (hn6.mono hb5.size)).trans (hb.mono (Nat.le_trans hb5.size hn6.size)); have hP7 := (hP5.at hn6).at hb; have hR7 := (hR5.at hn6).at hb; obtain ⟨b0, b1, b2⟩ := HBX.out _ hb7)
      | (go_at_call 48; refine (HKD.out _ _ _).mono ?_; rintro e w8 ⟨rfl, rfl⟩))
    go_ret
    exact ⟨by rw [HF.out]; rfl, hB0.trans (hb7.mono hB0.size)⟩
  · have hP := of_decide_eq_true HBB.out
    have hlen : 1 ≤ ks.length := by have := congrArg List.length hP; simp at this; omega
    obtain ⟨T, hT⟩ : ∃ T, tags xs (ks.drop 1) = T := ⟨_, rfl⟩
    have HBL := Lib.hid (fun W A1 c1 (hW : (⟨ps, A, c, vs, some ad, e, xs⟩ : Prg).Ok W) (hR : IRow W W.heap.size A1 ks) => ref_blocks_any (⟨ps, A, c, vs, some ad, e, xs⟩ : Prg) A1 c1 ks W hW HAS.out.inn hR (by have := HAS.out.len; omega) hlen)
    simp only [hT] at HBL ⊢
    have HF := Lib.hid (show ifso (ks.map (okind vs xs) = [1, 2] ∧ T = true) 2 = ifso (T = true) 2 from ifso_iff ⟨fun h => h.2, fun h => ⟨hP, h⟩⟩ _)
    clear hT hP hlen
    go_enter Try.func37, Try.ntmps37
    go_wp2_with (first
      | (go_at_call 36; refine (HE.out _ HX.out.body).mono ?_; rintro e w2 ⟨rfl, hb2⟩; have hP2 := HX.out.at hb2; obtain ⟨a0, a1, a2⟩ := HBX.out _ hb2; obtain ⟨g0, g1⟩ := HBD.out _ hP2.body; have hn3 : Below w2.heap.size w2 (w2.alloc (.cells #[.int .i64 24, .int .i64 n] 39)) := (Below.refl _ _).alloc (Nat.le_refl _) _; have hb3 := hb2.trans (hn3.mono hb2.size); have bN := Blk.new w2 39 #[.int .i64 24, .int .i64 n]; have hnl := bN.lt; have hP3 := hP2.at hn3; obtain ⟨b0, b1, b2⟩ := HBX.out _ hb3)
      | (go_at_call 38; refine (HK.out _ hP3.body).mono ?_; rintro e w4 ⟨hb, A1, c1, rfl, hR4, -⟩; have hb4 := hb3.trans (hb.mono hb3.size); have bN4 := bN.below hb hnl; obtain ⟨n0, n1⟩ := bN4.two; have hnl4 := bN4.lt; have hP4 := hP3.at hb; obtain ⟨b0, b1, b2⟩ := HBX.out _ hb4)
      | (go_at_call 47; refine (HT.out _ hP4).mono ?_; rintro e w5 ⟨rfl, hb⟩; have hb5 := hb4.trans (hb.mono hb4.size); have bN5 := bN4.below hb hnl4; obtain ⟨n0, n1⟩ := bN5.two; have hP5 := hP4.at hb; have hR5 := hR4.at hb; obtain ⟨b0, b1, b2⟩ := HBX.out _ hb5)
      | (go_at_call 49; have hn6 : Below w5.heap.size w5 (w5.alloc (.cells #[.int .i64 1, .int .i64 2] 3)) := (Below.refl _ _).alloc (Nat.le_refl _) _; refine (HALL.out _ _ _ _ (hP5.at hn6) (hR5.at hn6) (Blk.new w5 3 #[.int .i64 1, .int .i64 2])).mono ?_; rintro e w7 ⟨rfl, hb⟩; have hb7 := (hb5.trans (hn6.mono hb5.size)).trans (hb.mono (Nat.le_trans hb5.size hn6.size)); have hP7 := (hP5.at hn6).at hb; have hR7 := (hR5.at hn6).at hb; obtain ⟨b0, b1, b2⟩ := HBX.out _ hb7)
      | (go_at_call 48; refine (HKD.out _ _ _).mono ?_; rintro e w8 ⟨rfl, rfl⟩)
      | (go_at_call 50; refine (HBL.out _ _ _ hP7 hR7).mono ?_; rintro e w9 ⟨rfl, hb⟩; have hb9 := hb7.trans (hb.mono hb7.size)))
    go_ret
    exact ⟨by rw [HF.out]; rfl, hB0.trans (hb9.mono hB0.size)⟩
set_option maxRecDepth 100000 in
set_option maxHeartbeats 2000000 in
theorem of_25 (p : Prg) (k : Nat) (n : Int) (ks : List Int) (w : World) (hp : p.Ok w) (hN : NodeAt p k 25 n ks) (hA : Asks p ks) :
    Calls Try.prog 37 #[.agg #[.int .i64 p.ps, .slice p.A p.vs.length p.c, .slice p.B p.xs.length p.e], .int .i64 k] w fun e w' => e = .returned (.int .i64 (ifso (ks.map (okind p.vs p.xs) = [0]) 2)) ∧ Below w.heap.size w w' := by
  obtain ⟨ad, hB1, -, -, -⟩ := hp.body k _ hN.node
  obtain ⟨ps, A, c, vs, B, e, xs⟩ := p
  simp only at hB1
  subst hB1
  have hB0 : Below w.heap.size w (w.alloc (.cells #[.int .i64 ps, .slice A vs.length c, .slice (some ad) xs.length e] 25)) := (Below.refl _ _).alloc (Nat.le_refl _) _
  have bX := Blk.new w 25 #[.int .i64 ps, .slice A vs.length c, .slice (some ad) xs.length e]
  have hgl : w.heap.size < (w.alloc (.cells #[.int .i64 ps, .slice A vs.length c, .slice (some ad) xs.length e] 25)).heap.size := bX.lt
  have HBX := Lib.hid (fun W (h : Below (w.alloc (.cells #[.int .i64 ps, .slice A vs.length c, .slice (some ad) xs.length e] 25)).heap.size (w.alloc (.cells #[.int .i64 ps, .slice A vs.length c, .slice (some ad) xs.length e] 25)) W) => (bX.below h hgl).three)
  have HX := Lib.hid (hp.at hB0)
  have hlx : xs.length ≤ 1000000 := hp.lx
  obtain ⟨E, hE⟩ := Int.eq_ofNat_of_zero_le hN.ends
  have hks := hN.kids
  simp only at hE hks
  have HE := Lib.hid (fun W (hW : Nodes W W.heap.size (some ad) xs) => ref_End_any (some ad) e xs (k : Int) W hW hlx)
  rw [hE] at HE
  have HK := Lib.hid (fun W (hW : Nodes W W.heap.size (some ad) xs) => (ref_Kids_any (some ad) e xs (k : Int) W hW hlx).mono (fun _ _ h => h.ints))
  rw [hks] at HK
  have HT := Lib.hid (fun W (hW : Prg.Ok ⟨ps, A, c, vs, some ad, e, xs⟩ W) => ref_typed_any ⟨ps, A, c, vs, some ad, e, xs⟩ n W hW)
  have hn : xs[k]? = some (25, n) := hN.node
  have HBD := Lib.hid (fun W (hW : Nodes W W.heap.size (some ad) xs) => show W.cell? (ad.add (k * 2)) = some (.int .i64 25) ∧ W.cell? ⟨(ad.add (k * 2)).block, (ad.add (k * 2)).off + 1, none⟩ = some (.int .i64 n) from by
    obtain ⟨_, q, -, q1, q2⟩ := hW k _ hn
    cases q
    exact ⟨q1, q2⟩)
  have i1 : (k : Int) < (xs.length : Int) := by have := (List.getElem?_eq_some_iff.1 hn).1; omega
  have i2 : (0 : Int) ≤ (k : Int) := by omega
  have i3 : ¬ (E : Int) < 0 := by omega
  have HAS := Lib.hid hA
  obtain ⟨t, ht⟩ : ∃ t, vtyp vs n = t := ⟨_, rfl⟩
  simp only [ht] at HT
  clear hN hA hn hE hks hp bX ht
  obtain ⟨b0, b1, b2⟩ := HBX.out _ (Below.refl _ _)
  have HALL := Lib.hid (fun W A1 c1 g (hW : (⟨ps, A, c, vs, some ad, e, xs⟩ : Prg).Ok W) (hR : IRow W W.heap.size A1 ks) (hg : Blk W g 3 #[.int .i64 0]) => show Calls Try.prog 49 #[.agg #[.int .i64 ps, .slice A vs.length c, .slice (some ad) xs.length e], .slice A1 ks.length c1, .slice (some ⟨g, 0, none⟩) 1 1] W _ from ref_all_any (⟨ps, A, c, vs, some ad, e, xs⟩ : Prg) (okind vs xs) A1 c1 ks (some ⟨g, 0, none⟩) 1 [0] W hW HAS.out.of hR (IRow.one g [0] hg hg.lt) (by have := HAS.out.len; omega) (by decide))
  obtain ⟨b, hb0⟩ : ∃ b, decide (ks.map (okind vs xs) = [0]) = b := ⟨_, rfl⟩
  rw [hb0] at HALL
  have HBB := Lib.hid hb0
  clear hb0
  have HKD := Lib.hid (fun k W => ref_kind_any b k W)
  go_enter Try.func37, Try.ntmps37
  go_wp2_with (first
    | (go_at_call 36; refine (HE.out _ HX.out.body).mono ?_; rintro e w2 ⟨rfl, hb2⟩; have hP2 := HX.out.at hb2; obtain ⟨a0, a1, a2⟩ := HBX.out _ hb2; obtain ⟨g0, g1⟩ := HBD.out _ hP2.body; have hn3 : Below w2.heap.size w2 (w2.alloc (.cells #[.int .i64 25, .int .i64 n] 39)) := (Below.refl _ _).alloc (Nat.le_refl _) _; have hb3 := hb2.trans (hn3.mono hb2.size); have bN := Blk.new w2 39 #[.int .i64 25, .int .i64 n]; have hnl := bN.lt; have hP3 := hP2.at hn3; obtain ⟨b0, b1, b2⟩ := HBX.out _ hb3)
    | (go_at_call 38; refine (HK.out _ hP3.body).mono ?_; rintro e w4 ⟨hb, A1, c1, rfl, hR4, -⟩; have hb4 := hb3.trans (hb.mono hb3.size); have bN4 := bN.below hb hnl; obtain ⟨n0, n1⟩ := bN4.two; have hnl4 := bN4.lt; have hP4 := hP3.at hb; obtain ⟨b0, b1, b2⟩ := HBX.out _ hb4)
    | (go_at_call 47; refine (HT.out _ hP4).mono ?_; rintro e w5 ⟨rfl, hb⟩; have hb5 := hb4.trans (hb.mono hb4.size); have bN5 := bN4.below hb hnl4; obtain ⟨n0, n1⟩ := bN5.two; have hP5 := hP4.at hb; have hR5 := hR4.at hb; obtain ⟨b0, b1, b2⟩ := HBX.out _ hb5)
    | (go_at_call 49; have hn6 : Below w5.heap.size w5 (w5.alloc (.cells #[.int .i64 0] 3)) := (Below.refl _ _).alloc (Nat.le_refl _) _; refine (HALL.out _ _ _ _ (hP5.at hn6) (hR5.at hn6) (Blk.new w5 3 #[.int .i64 0])).mono ?_; rintro e w7 ⟨rfl, hb⟩; have hb7 := (hb5.trans (hn6.mono hb5.size)).trans (hb.mono (Nat.le_trans hb5.size hn6.size)))
    | (go_at_call 48; refine (HKD.out _ _).mono ?_; rintro e w8 ⟨rfl, rfl⟩))
  go_ret
  exact ⟨by show Ending.returned (Value.int .i64 (ifso (b = true) 2)) = _; rw [← HBB.out, ifso_dec], hB0.trans (hb7.mono hB0.size)⟩
set_option maxRecDepth 100000 in
set_option maxHeartbeats 2000000 in
theorem of_26 (p : Prg) (k : Nat) (n : Int) (ks : List Int) (w : World) (hp : p.Ok w) (hN : NodeAt p k 26 n ks) (hA : Asks p ks) :
    Calls Try.prog 37 #[.agg #[.int .i64 p.ps, .slice p.A p.vs.length p.c, .slice p.B p.xs.length p.e], .int .i64 k] w fun e w' => e = .returned (.int .i64 (2)) ∧ Below w.heap.size w w' := by
  obtain ⟨ad, hB1, -, -, -⟩ := hp.body k _ hN.node
  obtain ⟨ps, A, c, vs, B, e, xs⟩ := p
  simp only at hB1
  subst hB1
  have hB0 : Below w.heap.size w (w.alloc (.cells #[.int .i64 ps, .slice A vs.length c, .slice (some ad) xs.length e] 25)) := (Below.refl _ _).alloc (Nat.le_refl _) _
  have bX := Blk.new w 25 #[.int .i64 ps, .slice A vs.length c, .slice (some ad) xs.length e]
  have hgl : w.heap.size < (w.alloc (.cells #[.int .i64 ps, .slice A vs.length c, .slice (some ad) xs.length e] 25)).heap.size := bX.lt
  have HBX := Lib.hid (fun W (h : Below (w.alloc (.cells #[.int .i64 ps, .slice A vs.length c, .slice (some ad) xs.length e] 25)).heap.size (w.alloc (.cells #[.int .i64 ps, .slice A vs.length c, .slice (some ad) xs.length e] 25)) W) => (bX.below h hgl).three)
  have HX := Lib.hid (hp.at hB0)
  have hlx : xs.length ≤ 1000000 := hp.lx
  obtain ⟨E, hE⟩ := Int.eq_ofNat_of_zero_le hN.ends
  have hks := hN.kids
  simp only at hE hks
  have HE := Lib.hid (fun W (hW : Nodes W W.heap.size (some ad) xs) => ref_End_any (some ad) e xs (k : Int) W hW hlx)
  rw [hE] at HE
  have HK := Lib.hid (fun W (hW : Nodes W W.heap.size (some ad) xs) => (ref_Kids_any (some ad) e xs (k : Int) W hW hlx).mono (fun _ _ h => h.ints))
  rw [hks] at HK
  have HT := Lib.hid (fun W (hW : Prg.Ok ⟨ps, A, c, vs, some ad, e, xs⟩ W) => ref_typed_any ⟨ps, A, c, vs, some ad, e, xs⟩ n W hW)
  have hn : xs[k]? = some (26, n) := hN.node
  have HBD := Lib.hid (fun W (hW : Nodes W W.heap.size (some ad) xs) => show W.cell? (ad.add (k * 2)) = some (.int .i64 26) ∧ W.cell? ⟨(ad.add (k * 2)).block, (ad.add (k * 2)).off + 1, none⟩ = some (.int .i64 n) from by
    obtain ⟨_, q, -, q1, q2⟩ := hW k _ hn
    cases q
    exact ⟨q1, q2⟩)
  have i1 : (k : Int) < (xs.length : Int) := by have := (List.getElem?_eq_some_iff.1 hn).1; omega
  have i2 : (0 : Int) ≤ (k : Int) := by omega
  have i3 : ¬ (E : Int) < 0 := by omega
  have HAS := Lib.hid hA
  obtain ⟨t, ht⟩ : ∃ t, vtyp vs n = t := ⟨_, rfl⟩
  simp only [ht] at HT
  clear hN hA hn hE hks hp bX ht
  obtain ⟨b0, b1, b2⟩ := HBX.out _ (Below.refl _ _)
  go_enter Try.func37, Try.ntmps37
  go_wp2_with (first
    | (go_at_call 36; refine (HE.out _ HX.out.body).mono ?_; rintro e w2 ⟨rfl, hb2⟩; have hP2 := HX.out.at hb2; obtain ⟨a0, a1, a2⟩ := HBX.out _ hb2; obtain ⟨g0, g1⟩ := HBD.out _ hP2.body; have hn3 : Below w2.heap.size w2 (w2.alloc (.cells #[.int .i64 26, .int .i64 n] 39)) := (Below.refl _ _).alloc (Nat.le_refl _) _; have hb3 := hb2.trans (hn3.mono hb2.size); have bN := Blk.new w2 39 #[.int .i64 26, .int .i64 n]; have hnl := bN.lt; have hP3 := hP2.at hn3; obtain ⟨b0, b1, b2⟩ := HBX.out _ hb3)
    | (go_at_call 38; refine (HK.out _ hP3.body).mono ?_; rintro e w4 ⟨hb, A1, c1, rfl, hR4, -⟩; have hb4 := hb3.trans (hb.mono hb3.size); have bN4 := bN.below hb hnl; obtain ⟨n0, n1⟩ := bN4.two; have hnl4 := bN4.lt; have hP4 := hP3.at hb; obtain ⟨b0, b1, b2⟩ := HBX.out _ hb4)
    | (go_at_call 47; refine (HT.out _ hP4).mono ?_; rintro e w5 ⟨rfl, hb⟩; have hb5 := hb4.trans (hb.mono hb4.size); have bN5 := bN4.below hb hnl4; obtain ⟨n0, n1⟩ := bN5.two; have hP5 := hP4.at hb; have hR5 := hR4.at hb; obtain ⟨b0, b1, b2⟩ := HBX.out _ hb5))
  go_ret
  exact ⟨rfl, hB0.trans (hb5.mono hB0.size)⟩
end Go.Proofs.Ytodejloonfkkmaa.Kinds

namespace Go.Proofs.Ytodejloonfkkmaa.Kinds
open Go.RowKit Mem _root_.Go.Proofs.Ytodejloonfkkmaa.Arena
set_option linter.unusedVariables false

set_option maxRecDepth 100000 in
set_option maxHeartbeats 2000000 in
theorem of_bad (p : Prg) (a : Int) (w : World) (hp : p.Ok w) (h : aend p.xs a < 0) :
    Calls Try.prog 37 #[.agg #[.int .i64 p.ps, .slice p.A p.vs.length p.c, .slice p.B p.xs.length p.e], .int .i64 a] w fun e w' => e = .returned (.int .i64 (-1)) ∧ Below w.heap.size w w' := by
  have hB0 : Below w.heap.size w (w.alloc (.cells #[.int .i64 p.ps, .slice p.A p.vs.length p.c, .slice p.B p.xs.length p.e] 25)) := (Below.refl _ _).alloc (Nat.le_refl _) _
  have HX := Lib.hid (hp.at hB0)
  have hlx := hp.lx
  obtain ⟨E, hE⟩ : ∃ E, aend p.xs a = E := ⟨_, rfl⟩
  have HE := Lib.hid (fun W (hW : p.Ok W) => ref_End_any p.B p.e p.xs a W hW.body hlx)
  rw [hE] at HE h
  clear hE hp
  go_enter Try.func37, Try.ntmps37
  go_wp2_with (first
    | (go_at_call 36; refine (HE.out _ HX.out).mono ?_; rintro e w2 ⟨rfl, hb2⟩))
  go_ret
  exact ⟨rfl, hB0.trans (hb2.mono hB0.size)⟩

theorem fst_kids (vs : List Int) (xs : List Nd) (ks : List Int) : (ks.map fun q => (okind vs xs q, otag xs q)).map Prod.fst = ks.map (okind vs xs) := by
  rw [List.map_map]; rfl
theorem blks_kids (vs : List Int) (xs : List Nd) (ks : List Int) : blks (ks.map fun q => (okind vs xs q, otag xs q)) = tags xs (ks.drop 1) := by
  unfold blks tags
  rw [← List.map_drop, List.all_map]
  rfl

set_option maxRecDepth 100000 in
theorem of_node (p : Prg) (k : Nat) (x : Nd) (ks : List Int) (w : World) (hp : p.Ok w) (h0 : 0 ≤ ar x) (hN : NodeAt p k x.1 x.2 ks) (hA : Asks p ks) :
    Calls Try.prog 37 #[.agg #[.int .i64 p.ps, .slice p.A p.vs.length p.c, .slice p.B p.xs.length p.e], .int .i64 k] w fun e w' => e = .returned (.int .i64 (rule p.vs x (ks.map fun q => (okind p.vs p.xs q, otag p.xs q)))) ∧ Below w.heap.size w w' := by
  obtain ⟨t, n⟩ := x
  simp only at hN
  have e1 := fst_kids p.vs p.xs ks
  have e2 := blks_kids p.vs p.xs ks
  by_cases h : t < 1 ∨ 26 < t
  · rw [ar_else h] at h0; omega
  · obtain ⟨m, rfl⟩ := Int.eq_ofNat_of_zero_le (show 0 ≤ t by omega)
    rcases (show m = 1 ∨ m = 2 ∨ m = 3 ∨ m = 4 ∨ m = 5 ∨ m = 6 ∨ m = 7 ∨ m = 8 ∨ m = 9 ∨ m = 10 ∨ m = 11 ∨ m = 12 ∨ m = 13 ∨ m = 14 ∨ m = 15 ∨ m = 16 ∨ m = 17 ∨ m = 18 ∨ m = 19 ∨ m = 20 ∨ m = 21 ∨ m = 22 ∨ m = 23 ∨ m = 24 ∨ m = 25 ∨ m = 26 by omega) with rfl | rfl | rfl | rfl | rfl | rfl | rfl | rfl | rfl | rfl | rfl | rfl | rfl | rfl | rfl | rfl | rfl | rfl | rfl | rfl | rfl | rfl | rfl | rfl | rfl | rfl
    · rw [show rule p.vs (((1 : Nat) : Int), n) (ks.map fun q => (okind p.vs p.xs q, otag p.xs q)) = 0 by unfold rule; simp only [e1, e2]; rfl]
      exact of_1 p k n ks w hp hN hA
    · rw [show rule p.vs (((2 : Nat) : Int), n) (ks.map fun q => (okind p.vs p.xs q, otag p.xs q)) = 1 by unfold rule; simp only [e1, e2]; rfl]
      exact of_2 p k n ks w hp hN hA
    · rw [show rule p.vs (((3 : Nat) : Int), n) (ks.map fun q => (okind p.vs p.xs q, otag p.xs q)) = ifso (vtyp p.vs n = 0 ∨ vtyp p.vs n = 1) (vtyp p.vs n) by unfold rule; simp only [e1, e2]; rfl]
      exact of_3 p k n ks w hp hN hA
    · rw [show rule p.vs (((4 : Nat) : Int), n) (ks.map fun q => (okind p.vs p.xs q, otag p.xs q)) = ifso (0 < asz (vtyp p.vs n) ∧ ks.map (okind p.vs p.xs) = [0]) 0 by unfold rule; simp only [e1, e2]; rfl]
      exact of_4 p k n ks w hp hN hA
    · rw [show rule p.vs (((5 : Nat) : Int), n) (ks.map fun q => (okind p.vs p.xs q, otag p.xs q)) = ifso (ks.map (okind p.vs p.xs) = [0]) 0 by unfold rule; simp only [e1, e2]; rfl]
      exact of_5 p k n ks w hp hN hA
    · rw [show rule p.vs (((6 : Nat) : Int), n) (ks.map fun q => (okind p.vs p.xs q, otag p.xs q)) = ifso (ks.map (okind p.vs p.xs) = [1]) 1 by unfold rule; simp only [e1, e2]; rfl]
      exact of_6 p k n ks w hp hN hA
    · rw [show rule p.vs (((7 : Nat) : Int), n) (ks.map fun q => (okind p.vs p.xs q, otag p.xs q)) = ifso (ks.map (okind p.vs p.xs) = [0, 0]) 0 by unfold rule; simp only [e1, e2]; rfl]
      exact of_7 p k n ks w hp hN hA
    · rw [show rule p.vs (((8 : Nat) : Int), n) (ks.map fun q => (okind p.vs p.xs q, otag p.xs q)) = ifso (ks.map (okind p.vs p.xs) = [0, 0]) 0 by unfold rule; simp only [e1, e2]; rfl]
      exact of_8 p k n ks w hp hN hA
    · rw [show rule p.vs (((9 : Nat) : Int), n) (ks.map fun q => (okind p.vs p.xs q, otag p.xs q)) = ifso (ks.map (okind p.vs p.xs) = [0, 0]) 0 by unfold rule; simp only [e1, e2]; rfl]
      exact of_9 p k n ks w hp hN hA
    · rw [show rule p.vs (((10 : Nat) : Int), n) (ks.map fun q => (okind p.vs p.xs q, otag p.xs q)) = ifso (ks.map (okind p.vs p.xs) = [0, 0]) 0 by unfold rule; simp only [e1, e2]; rfl]
      exact of_10 p k n ks w hp hN hA
    · rw [show rule p.vs (((11 : Nat) : Int), n) (ks.map fun q => (okind p.vs p.xs q, otag p.xs q)) = ifso (ks.map (okind p.vs p.xs) = [0, 0]) 0 by unfold rule; simp only [e1, e2]; rfl]
      exact of_11 p k n ks w hp hN hA
    · rw [show rule p.vs (((12 : Nat) : Int), n) (ks.map fun q => (okind p.vs p.xs q, otag p.xs q)) = ifso (ks.map (okind p.vs p.xs) = [0, 0]) 1 by unfold rule; simp only [e1, e2]; rfl]
      exact of_12 p k n ks w hp hN hA
    · rw [show rule p.vs (((13 : Nat) : Int), n) (ks.map fun q => (okind p.vs p.xs q, otag p.xs q)) = ifso (ks.map (okind p.vs p.xs) = [0, 0]) 1 by unfold rule; simp only [e1, e2]; rfl]
      exact of_13 p k n ks w hp hN hA
    · rw [show rule p.vs (((14 : Nat) : Int), n) (ks.map fun q => (okind p.vs p.xs q, otag p.xs q)) = ifso (ks.map (okind p.vs p.xs) = [0, 0]) 1 by unfold rule; simp only [e1, e2]; rfl]
      exact of_14 p k n ks w hp hN hA
    · rw [show rule p.vs (((15 : Nat) : Int), n) (ks.map fun q => (okind p.vs p.xs q, otag p.xs q)) = ifso (ks.map (okind p.vs p.xs) = [0, 0]) 1 by unfold rule; simp only [e1, e2]; rfl]
      exact of_15 p k n ks w hp hN hA
    · rw [show rule p.vs (((16 : Nat) : Int), n) (ks.map fun q => (okind p.vs p.xs q, otag p.xs q)) = ifso (ks.map (okind p.vs p.xs) = [0, 0]) 1 by unfold rule; simp only [e1, e2]; rfl]
      exact of_16 p k n ks w hp hN hA
    · rw [show rule p.vs (((17 : Nat) : Int), n) (ks.map fun q => (okind p.vs p.xs q, otag p.xs q)) = ifso (ks.map (okind p.vs p.xs) = [0, 0]) 1 by unfold rule; simp only [e1, e2]; rfl]
      exact of_17 p k n ks w hp hN hA
    · rw [show rule p.vs (((18 : Nat) : Int), n) (ks.map fun q => (okind p.vs p.xs q, otag p.xs q)) = ifso (ks.map (okind p.vs p.xs) = [1, 1]) 1 by unfold rule; simp only [e1, e2]; rfl]
      exact of_18 p k n ks w hp hN hA
    · rw [show rule p.vs (((19 : Nat) : Int), n) (ks.map fun q => (okind p.vs p.xs q, otag p.xs q)) = ifso (ks.map (okind p.vs p.xs) = [1, 1]) 1 by unfold rule; simp only [e1, e2]; rfl]
      exact of_19 p k n ks w hp hN hA
    · rw [show rule p.vs (((20 : Nat) : Int), n) (ks.map fun q => (okind p.vs p.xs q, otag p.xs q)) = ifso (alltwo (ks.map (okind p.vs p.xs)) = true) 2 by unfold rule; simp only [e1, e2]; rfl]
      exact of_20 p k n ks w hp hN hA
    · rw [show rule p.vs (((21 : Nat) : Int), n) (ks.map fun q => (okind p.vs p.xs q, otag p.xs q)) = ifso ((vtyp p.vs n = 0 ∨ vtyp p.vs n = 1) ∧ ks.map (okind p.vs p.xs) = [vtyp p.vs n]) 2 by unfold rule; simp only [e1, e2]; rfl]
      exact of_21 p k n ks w hp hN hA
    · rw [show rule p.vs (((22 : Nat) : Int), n) (ks.map fun q => (okind p.vs p.xs q, otag p.xs q)) = ifso (0 < asz (vtyp p.vs n) ∧ ks.map (okind p.vs p.xs) = [0, 0]) 2 by unfold rule; simp only [e1, e2]; rfl]
      exact of_22 p k n ks w hp hN hA
    · rw [show rule p.vs (((23 : Nat) : Int), n) (ks.map fun q => (okind p.vs p.xs q, otag p.xs q)) = ifso (ks.map (okind p.vs p.xs) = [1, 2, 2] ∧ tags p.xs (ks.drop 1) = true) 2 by unfold rule; simp only [e1, e2]; rfl]
      exact of_23 p k n ks w hp hN hA
    · rw [show rule p.vs (((24 : Nat) : Int), n) (ks.map fun q => (okind p.vs p.xs q, otag p.xs q)) = ifso (ks.map (okind p.vs p.xs) = [1, 2] ∧ tags p.xs (ks.drop 1) = true) 2 by unfold rule; simp only [e1, e2]; rfl]
      exact of_24 p k n ks w hp hN hA
    · rw [show rule p.vs (((25 : Nat) : Int), n) (ks.map fun q => (okind p.vs p.xs q, otag p.xs q)) = ifso (ks.map (okind p.vs p.xs) = [0]) 2 by unfold rule; simp only [e1, e2]; rfl]
      exact of_25 p k n ks w hp hN hA
    · rw [show rule p.vs (((26 : Nat) : Int), n) (ks.map fun q => (okind p.vs p.xs q, otag p.xs q)) = 2 by unfold rule; simp only [e1, e2]; rfl]
      exact of_26 p k n ks w hp hN hA

/-- A node's kind: by how many nodes stand from there on. -/
theorem ref_Of_fuel (p : Prg) : ∀ (f : Nat) (a : Int) (w : World), (p.xs.length : Int) - a ≤ f → p.Ok w →
    Calls Try.prog 37 #[.agg #[.int .i64 p.ps, .slice p.A p.vs.length p.c, .slice p.B p.xs.length p.e], .int .i64 a] w fun e w' => e = .returned (.int .i64 (okind p.vs p.xs a)) ∧ Below w.heap.size w w' := by
  intro f
  induction f with
  | zero =>
    intro a w hf hp
    have he : aend p.xs a < 0 := by
      rcases aend_cases p.xs a with h | ⟨k, n, rfl, -, -, h1, h2⟩ <;> omega
    rw [okind_bad he]
    exact of_bad p a w hp he
  | succ f ih =>
    intro a w hf hp
    rcases aend_cases p.xs a with he | ⟨k, n, rfl, hs, he, hn1, hn2⟩
    · rw [okind_bad (by omega)]
      exact of_bad p a w hp (by omega)
    · obtain ⟨x, hx, h0, hl, hv⟩ := okind_kids (vs := p.vs) hs
      rw [hv]
      have hin := kids_in hs
      refine of_node p k x (akids p.xs k) w hp h0 ⟨hx, by omega, rfl, hl⟩ ⟨fun q hq W hW => ih q W (by have := hin q hq; omega) hW, fun q hq => ?_, by have := ar_le x; omega⟩
      rcases aend_cases p.xs q with h | ⟨k', n', rfl, hs', -⟩
      · have := (hin q hq).2.2; omega
      · obtain ⟨y, hy, -⟩ := node_kids hs'
        exact ⟨k', y, rfl, hy⟩
theorem ref_Of_any (p : Prg) (a : Int) (w : World) (hp : p.Ok w) :
    Calls Try.prog 37 #[.agg #[.int .i64 p.ps, .slice p.A p.vs.length p.c, .slice p.B p.xs.length p.e], .int .i64 a] w fun e w' => e = .returned (.int .i64 (okind p.vs p.xs a)) ∧ Below w.heap.size w w' :=
  ref_Of_fuel p ((p.xs.length : Int) - a).toNat a w (by omega) hp

end Go.Proofs.Ytodejloonfkkmaa.Kinds

namespace Go.Proofs.Ytodejloonfkkmaa.Kinds
open Go.RowKit Mem _root_.Go.Proofs.Ytodejloonfkkmaa.Arena
set_option linter.unusedVariables false

/-- May a variable be? -/
def vgood (ps : Int) (i : Nat) (x : Int) : Bool := decide (0 ≤ x ∧ x ≤ 9 ∧ ((i : Int) < ps → x = 0))
/-- May the first so many be? -/
def vsgood (ps : Int) (vs : List Int) : Nat → Bool
  | 0 => true
  | k + 1 => vsgood ps vs k && vgood ps k (vs.getD k 0)
def avars (ps : Int) (vs : List Int) : Int := if ps < 0 ∨ (vs.length : Int) < ps ∨ 12 < vs.length then 14 else if vsgood ps vs vs.length = true then 0 else 14
theorem vsgood_le {ps : Int} {vs : List Int} {k n : Nat} (h : vsgood ps vs n = true) (hk : k ≤ n) : vsgood ps vs k = true := by
  induction n with
  | zero => obtain rfl : k = 0 := by omega
            exact h
  | succ n ih =>
    rw [vsgood, Bool.and_eq_true] at h
    rcases Nat.eq_or_lt_of_le hk with rfl | q
    · rw [vsgood, h.1, h.2]; rfl
    · exact ih h.1 (by omega)
theorem vsgood_not {ps : Int} {vs : List Int} {k n : Nat} (hk : k < n) (h : vgood ps k (vs.getD k 0) = false) : vsgood ps vs n = false := by
  cases hb : vsgood ps vs n with
  | false => rfl
  | true =>
    have := vsgood_le hb (show k + 1 ≤ n by omega)
    rw [vsgood, h, Bool.and_false] at this
    exact this.symm
/-- What is wrong with a program. -/
def pcheck (ps : Int) (vs : List Int) (xs : List Nd) : Int := if acheck xs ≠ 0 then acheck xs else if avars ps vs ≠ 0 then avars ps vs else if otag xs 0 ≠ 20 ∨ okind vs xs 0 ≠ 2 then 15 else 0

set_option maxRecDepth 100000 in
set_option maxHeartbeats 2000000 in
theorem ref_Vars_any (p : Prg) (w : World) (hp : p.Ok w) :
    Calls Try.prog 35 #[.agg #[.int .i64 p.ps, .slice p.A p.vs.length p.c, .slice p.B p.xs.length p.e]] w fun e w' => e = .returned (.int .i64 (avars p.ps p.vs)) ∧ Below w.heap.size w w' := by
  have hB0 : Below w.heap.size w (w.alloc (.cells #[.int .i64 p.ps, .slice p.A p.vs.length p.c, .slice p.B p.xs.length p.e] 25)) := (Below.refl _ _).alloc (Nat.le_refl _) _
  have bX := Blk.new w 25 #[.int .i64 p.ps, .slice p.A p.vs.length p.c, .slice p.B p.xs.length p.e]
  have hX := (hp.at hB0).vars
  have hlv := hp.lv
  obtain ⟨b0, b1, b2⟩ := bX.three
  clear hp bX
  obtain ⟨ps, A, c, vs, B, e, xs⟩ := p
  simp only at hX hlv b0 b1 b2 ⊢
  obtain ⟨E, hE⟩ : ∃ E, avars ps vs = E := ⟨_, rfl⟩
  rw [hE]
  by_cases h1 : ps < 0
  · have HF := Lib.hid (show E = 14 by rw [← hE]; unfold avars; rw [if_pos (.inl h1)])
    clear hE
    go_enter Try.func35, Try.ntmps35
    go_wp2
    go_ret
    exact ⟨by rw [HF.out]; rfl, hB0⟩
  by_cases h2 : (vs.length : Int) < ps
  · have HF := Lib.hid (show E = 14 by rw [← hE]; unfold avars; rw [if_pos (.inr (.inl h2))])
    clear hE
    go_enter Try.func35, Try.ntmps35
    go_wp2
    go_ret
    exact ⟨by rw [HF.out]; rfl, hB0⟩
  by_cases h3 : 12 < vs.length
  · have HF := Lib.hid (show E = 14 by rw [← hE]; unfold avars; rw [if_pos (.inr (.inr h3))])
    have h3' : (12 : Int) < (vs.length : Int) := by omega
    clear hE
    go_enter Try.func35, Try.ntmps35
    go_wp2
    go_ret
    exact ⟨by rw [HF.out]; rfl, hB0⟩
  have h3' : ¬ (12 : Int) < (vs.length : Int) := by omega
  have HE := Lib.hid (show E = if vsgood ps vs vs.length = true then 0 else 14 by rw [← hE]; unfold avars; rw [if_neg (by omega)])
  clear hE
  go_enter Try.func35, Try.ntmps35
  go_wp2
  go_loop [3] (fun i => ∃ k : Nat, k ≤ vs.length ∧ i = .int .i64 k ∧ vsgood ps vs k = true) (fun i => vs.length - (intOf i).toNat)
  case atStart => exact ⟨0, by omega, rfl, rfl⟩
  case round =>
    obtain ⟨k, hk, rfl, hs⟩ := hrel
    by_cases hlt : k < vs.length
    · obtain ⟨x, hxk⟩ : ∃ x, vs[k]? = some x := ⟨_, List.getElem?_eq_getElem hlt⟩
      obtain ⟨ad, rfl, hb, g0⟩ := hX k x hxk
      have hgd : vs.getD k 0 = x := by rw [List.getD_eq_getElem?_getD, hxk]; rfl
      have i1 : (k : Int) < (vs.length : Int) := by omega
      have i2 : (0 : Int) ≤ (k : Int) := by omega
      have bad : vgood ps k x = false → E = 14 := fun h => by rw [HE.out, if_neg (by rw [vsgood_not hlt (by rw [hgd]; exact h)]; simp)]
      have good : vgood ps k x = true → vsgood ps vs (k + 1) = true := fun h => by rw [vsgood, hs, hgd, h]; rfl
      clear hxk hs
      by_cases q1 : x < 0
      · have HF := Lib.hid (bad (by unfold vgood; rw [decide_eq_false]; omega))
        clear bad good
        go_wp2
        go_ret
        exact ⟨by rw [HF.out]; rfl, hB0⟩
      by_cases q2 : 9 < x
      · have HF := Lib.hid (bad (by unfold vgood; rw [decide_eq_false]; omega))
        clear bad good
        go_wp2
        go_ret
        exact ⟨by rw [HF.out]; rfl, hB0⟩
      by_cases q3 : (k : Int) < ps
      · by_cases q4 : x = 0
        · have HS := Lib.hid (good (by unfold vgood; rw [decide_eq_true]; omega))
          subst q4
          clear bad good
          go_wp2
          go_round
          case rel => exact ⟨k + 1, by omega, by go_num, HS.out⟩
          case measure => simp [intOf]; omega
        · have HF := Lib.hid (bad (by unfold vgood; rw [decide_eq_false]; omega))
          have e2 : (x == 0) = false := by simpa using q4
          have e3 : (x != 0) = true := by simpa using q4
          clear bad good
          go_wp2
          go_ret
          exact ⟨by rw [HF.out]; rfl, hB0⟩
      · have HS := Lib.hid (good (by unfold vgood; rw [decide_eq_true]; omega))
        clear bad good
        go_wp2
        go_round
        case rel => exact ⟨k + 1, by omega, by go_num, HS.out⟩
        case measure => simp [intOf]; omega
    · have hk9 : k = vs.length := by omega
      subst hk9
      have HF := Lib.hid (show E = 0 by rw [HE.out, if_pos hs])
      have i1 : ¬ (vs.length : Int) < (vs.length : Int) := by omega
      clear hs
      go_wp2
      go_ret
      exact ⟨by rw [HF.out]; rfl, hB0⟩

set_option maxRecDepth 100000 in
theorem ref_Few_any (p : Prg) (w : World) : Calls Try.prog 17 #[.agg #[.int .i64 p.ps, .slice p.A p.vs.length p.c, .slice p.B p.xs.length p.e]] w fun e w' => e = .returned (.bool (decide (p.xs.length ≤ 60) && decide (p.vs.length ≤ 20))) ∧ Below w.heap.size w w' := by
  have hB0 : Below w.heap.size w (w.alloc (.cells #[.int .i64 p.ps, .slice p.A p.vs.length p.c, .slice p.B p.xs.length p.e] 25)) := (Below.refl _ _).alloc (Nat.le_refl _) _
  by_cases h1 : p.xs.length ≤ 60
  · have e1 : (p.xs.length : Int) ≤ 60 := by omega
    rw [decide_eq_true h1, Bool.true_and]
    by_cases h2 : p.vs.length ≤ 20
    · have e2 : (p.vs.length : Int) ≤ 20 := by omega
      rw [decide_eq_true h2]
      go_enter Try.func17, Try.ntmps17
      go_wp2
      go_ret
      exact ⟨rfl, hB0⟩
    · have e2 : ¬ (p.vs.length : Int) ≤ 20 := by omega
      rw [decide_eq_false h2]
      go_enter Try.func17, Try.ntmps17
      go_wp2
      go_ret
      exact ⟨rfl, hB0⟩
  · have e1 : ¬ (p.xs.length : Int) ≤ 60 := by omega
    rw [decide_eq_false h1, Bool.false_and]
    go_enter Try.func17, Try.ntmps17
    go_wp2
    go_ret
    exact ⟨rfl, hB0⟩

end Go.Proofs.Ytodejloonfkkmaa.Kinds

namespace Go.Proofs.Ytodejloonfkkmaa.Kinds
open Go.RowKit Mem _root_.Go.Proofs.Ytodejloonfkkmaa.Arena
set_option linter.unusedVariables false

end Go.Proofs.Ytodejloonfkkmaa.Kinds

namespace Go.Proofs.Ytodejloonfkkmaa.Kinds
open _root_.Go.Proofs.Ytodejloonfkkmaa.Arena

end Go.Proofs.Ytodejloonfkkmaa.Kinds

namespace Go.Proofs.Ytodejloonfkkmaa.Kinds
open Go.RowKit Mem Go.ChangeShapes Go.WideShapes Go.Deep Go.Joins _root_.Go.Proofs.Ytodejloonfkkmaa.Arena

section
variable {H : Type} {enc : TypeId × Value → H} {W : World} {spare : Nat → Bool} {held : Bool}

set_option maxRecDepth 100000 in
/-- A slice of nodes, out of its cell. -/
theorem nodes_of {n : Nat} {cs : List Value} {x : DataW H × List MemPlace} (hf : DataW.trod enc Try.prog W 0 spare held n 23 cs = some x) :
    ∃ (A : Option Addr) (cap : Nat) (xs : List Nd), cs = [.slice A xs.length cap] ∧ xs.length ≤ maxLen ∧ xs.length ≤ cap ∧ (A = none → cap = 0) ∧ Nodes W W.heap.size A xs := by
  have hC : Try.prog.cellsOf 39 = 2 := by kernel_rfl
  rcases open_slice Try.underlying23 hf with ⟨rfl, -⟩ | ⟨a, len, cap, m, n, D, Pl, rfl, -, hlc, hcm, hm, hx, hi⟩
  · exact ⟨none, 0, [], rfl, by simp, by simp, fun _ => rfl, fun i x h => by simp at h⟩
  · rw [hC] at hi
    have hlm : len ≤ m := by rw [hm]; split <;> omega
    have each : ∀ i, i < len → ∃ y : Nd, (a.add (i * 2)).block = a.block ∧ W.cell? (a.add (i * 2)) = some (.int .i64 y.1) ∧ W.cell? ⟨(a.add (i * 2)).block, (a.add (i * 2)).off + 1, none⟩ = some (.int .i64 y.2) := by
      intro i hil
      obtain ⟨cs', hc, ht⟩ := hi i (by omega)
      obtain ⟨y, hy⟩ := node_of ht
      have hat := cells_atN hc
      subst hy
      refine ⟨y, add_blockN _ _, ?_, ?_⟩
      · exact hat 0 _ rfl
      · have := hat 1 _ rfl; rwa [add_off _ _ (by omega)] at this
    obtain ⟨F, hF⟩ := choose_lt each
    refine ⟨some a, cap, (List.range len).map F, by simp, by simp; omega, by simpa using hlc, (fun e => by cases e), fun i x hxi => ?_⟩
    obtain ⟨hil, rfl⟩ : i < len ∧ F i = x := by
      rw [List.getElem?_map] at hxi
      have h1 : (List.range len)[i]? = some i := by
        rcases Nat.lt_or_ge i len with h | h
        · rw [List.getElem?_range h]
        · rw [List.getElem?_eq_none (by simpa using h)] at hxi; cases hxi
      rw [h1] at hxi
      have h2 := (List.getElem?_eq_some_iff.1 h1).1
      exact ⟨by simpa using h2, by simpa using hxi⟩
    obtain ⟨hb, q0, q1⟩ := hF i hil
    exact ⟨a, rfl, by have := World.block_lt_of_cell? W _ q0; rw [hb] at this; exact this, q0, q1⟩

set_option maxRecDepth 100000 in
/-- A slice of numbers, out of its cell. -/
theorem ints_of {n : Nat} {cs : List Value} {x : DataW H × List MemPlace} (hf : DataW.trod enc Try.prog W 0 spare held n 22 cs = some x) :
    ∃ (A : Option Addr) (cap : Nat) (ks : List Int), cs = [.slice A ks.length cap] ∧ ks.length ≤ maxLen ∧ ks.length ≤ cap ∧ (A = none → cap = 0) ∧ IRow W W.heap.size A ks := by
  have hC : Try.prog.cellsOf 3 = 1 := by kernel_rfl
  rcases open_slice1 Try.underlying22 hC hf with ⟨rfl, -⟩ | ⟨a, len, cap, m, n, V, D, Pl, rfl, -, hlc, hcm, hm, hx, hi⟩
  · exact ⟨none, 0, [], rfl, by simp, by simp, fun _ => rfl, fun i x h => by simp at h⟩
  · have hlm : len ≤ m := by rw [hm]; split <;> omega
    have each : ∀ i, i < len → ∃ y : Int, W.cell? (a.add i) = some (.int .i64 y) := by
      intro i hil
      obtain ⟨hc, ht⟩ := hi i (by omega)
      obtain ⟨k, e0, -, -⟩ := DataW.trod_int Try.underlying3 ht
      simp at e0
      exact ⟨k, by rw [hc, e0]⟩
    obtain ⟨F, hF⟩ := choose_lt each
    refine ⟨some a, cap, (List.range len).map F, by simp, by simp; omega, by simpa using hlc, (fun e => by cases e), fun i x hxi => ?_⟩
    obtain ⟨hil, rfl⟩ : i < len ∧ F i = x := by
      rw [List.getElem?_map] at hxi
      have h1 : (List.range len)[i]? = some i := by
        rcases Nat.lt_or_ge i len with h | h
        · rw [List.getElem?_range h]
        · rw [List.getElem?_eq_none (by simpa using h)] at hxi; cases hxi
      rw [h1] at hxi
      have h2 := (List.getElem?_eq_some_iff.1 h1).1
      exact ⟨by simpa using h2, by simpa using hxi⟩
    have q0 := hF i hil
    exact ⟨a, rfl, by have := World.block_lt_of_cell? W _ q0; rw [add_blockN] at this; exact this, q0⟩

/-- A program that came in: it lies in memory; how large it is is not known. -/
structure Prg.In (p : Prg) (w : World) : Prop where
  vars : IRow w w.heap.size p.A p.vs
  body : Nodes w w.heap.size p.B p.xs
  lv : p.vs.length ≤ maxLen
  lx : p.xs.length ≤ maxLen
  cv : p.vs.length ≤ p.c
  ce : p.xs.length ≤ p.e
  nv : p.A = none → p.c = 0
  nb : p.B = none → p.e = 0
theorem Prg.In.at {p : Prg} {w w' : World} (h : p.In w) (hb : Below w.heap.size w w') : p.In w' := ⟨h.vars.at hb, h.body.at hb, h.lv, h.lx, h.cv, h.ce, h.nv, h.nb⟩
theorem Prg.In.ok {p : Prg} {w : World} (h : p.In w) (h1 : p.vs.length ≤ 1000000) (h2 : p.xs.length ≤ 1000000) : p.Ok w := ⟨h.vars, h.body, h1, h2, h.cv, h.ce, h.nv, h.nb⟩

set_option maxRecDepth 100000 in
/-- One program by value. -/
theorem open_program {b0 : Nat} {v : Value} {d : DataW H} {q : List MemPlace} (hv : Value.okWide Try.prog W .any b0 25 v) (h : DataW.Trod enc Try.prog W 0 spare held 25 v d q) :
    ∃ p : Prg, v = .agg #[.int .i64 p.ps, .slice p.A p.vs.length p.c, .slice p.B p.xs.length p.e] ∧ p.In W := by
  obtain ⟨cs, rfl, -⟩ := okWide_struct Try.underlying25 hv
  obtain ⟨fuel, hf⟩ := h
  have hC : Try.prog.cellsOf 25 = 3 := by kernel_rfl
  have hC0 : Try.prog.cellsOf 3 = 1 := by kernel_rfl
  have hC1 : Try.prog.cellsOf 22 = 1 := by kernel_rfl
  have hC2 : Try.prog.cellsOf 23 = 1 := by kernel_rfl
  obtain ⟨l⟩ := cs
  obtain ⟨y0, y1, y2, m, hx, hl, h0, h1, h2⟩ := trod_struct3 Try.underlying25 hf
  rw [hC] at hl
  simp only [Value.cells] at hl h0 h1 h2
  match l, hl with
  | [c0, c1, c2], _ =>
    obtain ⟨k, e0, -, -⟩ := DataW.trod_int Try.underlying3 h0
    obtain ⟨A, c, vs, e1, r1, r2, r3, r4⟩ := ints_of h1
    obtain ⟨B, e, xs, e2, s1, s2, s3, s4⟩ := nodes_of h2
    simp only [hC0, hC1, hC2] at e0 e1 e2
    simp at e0 e1 e2
    exact ⟨⟨k, A, c, vs, B, e, xs⟩, by simp [e0, e1, e2], ⟨r4, s4, r1, s1, r2, s2, r3, s3⟩⟩

end
end Go.Proofs.Ytodejloonfkkmaa.Kinds

namespace Go.Proofs.Ytodejloonfkkmaa.Kinds
open Go.RowKit Mem _root_.Go.Proofs.Ytodejloonfkkmaa.Arena
set_option linter.unusedVariables false
attribute [local go_sem ↓] Go.wp_at_zero Go.wp_at_succ

end Go.Proofs.Ytodejloonfkkmaa.Kinds

namespace Go.Proofs.Ytodejloonfkkmaa.Kinds
open Go.RowKit Mem _root_.Go.Proofs.Ytodejloonfkkmaa.Arena
set_option linter.unusedVariables false
attribute [local go_sem ↓] Go.wp_at_zero Go.wp_at_succ

end Go.Proofs.Ytodejloonfkkmaa.Kinds
