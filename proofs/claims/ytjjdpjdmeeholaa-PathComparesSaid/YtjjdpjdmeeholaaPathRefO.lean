/-
  The reference of paths, walked: a node's path.
-/
import Derived.Test.YtjjdpjdmeeholaaPathRef
namespace Go.Proofs.Ytjjdpjdmeeholaa.Path
open Go.RowKit Mem _root_.Go.Proofs.Ytjjdpjdmeeholaa.Arena
set_option linter.unusedVariables false
attribute [local go_sem ↓] Go.wp_at_zero Go.wp_at_succ

/-- The node that has one as a kid. -/
def UpEnds (l : List Nd) (b : Int) (w : World) (e : Ending) (w' : World) : Prop :=
  Below w.heap.size w w' ∧ ∃ i j : Nat, (i : Int) < b ∧ (akids l i)[j]? = some b ∧ e = .returned (.tuple #[.int .i64 i, .int .i64 j])
set_option maxRecDepth 100000 in
set_option maxHeartbeats 2000000 in
theorem ref_up_any (A : Option Addr) (c : Nat) (l : List Nd) (hl : l.length ≤ 1000000) (hw : Whole l) (b : Nat) (h0 : 0 < b) (hb : b < l.length) (w : World) (hx : Nodes w w.heap.size A l) :
    Calls Try.prog 21 #[.slice A l.length c, .int .i64 b] w (UpEnds l b w) := by
  have HX := Lib.hid hx
  have HK := Lib.hid (fun b W hW => (ref_Kids_any A c l b W hW hl).mono (fun e w' h => h.ints))
  have HI := Lib.hid (is_kid hw.t h0 (by omega))
  clear hx hw
  go_enter Try.func21, Try.ntmps21
  go_wp2
  go_loopw [6] (fun i wr => ∃ k : Nat, k ≤ b ∧ i = .int .i64 k ∧ (∀ i' j' : Nat, i' < k → (akids l i')[j']? ≠ some (b : Int)) ∧ Below w.heap.size w wr) (fun i _ => b - (intOf i).toNat)
  case atStart => exact ⟨0, by omega, rfl, fun i' j' h => absurd h (by omega), Below.refl _ _⟩
  case round =>
    obtain ⟨k, hk, rfl, hn, hB⟩ := hrel
    by_cases h1 : k < b
    · have i1 : (k : Int) < (b : Int) := by omega
      have HN := Lib.hid hn
      have HKK := Lib.hid (fun W hW => HK.out (k : Int) W hW)
      clear hn
      go_wp2_with (go_at_call 23; refine (HKK.out _ (Nodes.at HX.out hB)).mono ?_; rintro e w3 ⟨hb3, A3, c3, rfl, hr3, hf3⟩; have hB3 := hB.trans (hb3.mono hB.size))
      have HR := Lib.hid hr3
      have hkl := kids_in_len l k
      obtain ⟨ks, hks⟩ : ∃ ks, akids l (k : Int) = ks := ⟨_, rfl⟩
      rw [hks] at HR hkl ⊢
      have HKS := Lib.hid hks
      clear hks hr3
      go_loopw [8] (fun j wr2 => ∃ m : Nat, m ≤ ks.length ∧ j = .int .i64 m ∧ (∀ j' : Nat, j' < m → ks[j']? ≠ some (b : Int)) ∧ wr2 = w3) (fun j _ => ks.length - (intOf j).toNat)
      case atStart => exact ⟨0, by omega, rfl, fun j' h => absurd h (by omega), rfl⟩
      case round =>
        obtain ⟨m, hm, rfl, hn2, rfl⟩ := hrel
        by_cases h2 : m < ks.length
        · have i2 : (m : Int) < (ks.length : Int) := by omega
          have i3 : (0 : Int) ≤ (m : Int) := by omega
          obtain ⟨y, hyk⟩ : ∃ y, ks[m]? = some y := ⟨_, List.getElem?_eq_getElem h2⟩
          obtain ⟨ad, rfl, hb', g0⟩ := HR.out m y hyk
          by_cases he : y = b
          · subst he
            have HY := Lib.hid hyk
            clear hyk hn2
            go_wp2
            go_ret2
            exact ⟨hB3, k, m, by omega, by rw [HKS.out]; exact HY.out, rfl⟩
          · have e1 : (y == (b : Int)) = false := by simpa using he
            have HN2 := Lib.hid (show ∀ j' : Nat, j' < m + 1 → ks[j']? ≠ some (b : Int) from fun j' h => by
              by_cases q : j' < m
              · exact hn2 j' q
              · have : j' = m := by omega
                subst this
                rw [hyk]
                exact fun z => he (Option.some.inj z))
            clear hyk hn2 he
            go_wp2
            go_roundw
            case rel => exact ⟨m + 1, by omega, by go_num, HN2.out, (by first | rfl | trivial)⟩
            case measure => simp [intOf]; omega
        · have hm9 : m = ks.length := by omega
          subst hm9
          have i2 : ¬ (ks.length : Int) < (ks.length : Int) := by omega
          have HN2 := Lib.hid hn2
          clear hn2
          go_wp2
          go_roundw
          case rel =>
            refine ⟨k + 1, by omega, by go_num, fun i' j' h => ?_, hB3⟩
            by_cases q : i' < k
            · exact HN.out i' j' q
            · have : i' = k := by omega
              subst this
              rw [HKS.out]
              by_cases q2 : j' < ks.length
              · exact HN2.out j' q2
              · rw [List.getElem?_eq_none (by omega)]; simp
          case measure => simp [intOf]; omega
    · have hk9 : k = b := by omega
      subst hk9
      obtain ⟨i, j, -, r2, r3⟩ := HI.out
      exact absurd r3 (hn i j (by omega))

/-- A row of numbers that the call owns, as numbers. -/
theorem own_ints2' {w : World} {base : Nat} {v : Value} {ks : List Int} (h : w.ownsRow base 3 1 v ks.length (icells ks)) :
    ∃ A c, v = .slice A ks.length c ∧ ks.length ≤ c ∧ (A = none → c = 0) ∧ IRow w w.heap.size A ks ∧ ∀ ad, A = some ad → base ≤ ad.block := by
  have hc := fun g hg => h.cells (g := g) hg
  rcases h.2 with ⟨rfl, h0⟩ | ⟨g, cap, cur, rfl, hbg, hg, hn, -⟩
  · obtain rfl := List.length_eq_zero_iff.1 h0
    exact ⟨none, 0, rfl, Nat.le_refl _, fun _ => rfl, fun i x h => by simp at h, fun ad e => by cases e⟩
  · refine ⟨_, _, rfl, hn, (fun e => by cases e), fun i x hx => ⟨_, rfl, (Array.getElem?_eq_some_iff.1 hg).1, ?_⟩, fun ad e => by cases e; exact hbg⟩
    exact hc g rfl _ _ (by unfold icells; rw [List.getElem?_map, hx]; rfl)
theorem leads_0 {l : List Nd} (hw : Whole l) : Leads l 0 [] := ⟨hw, by omega, rfl⟩
theorem leads_kid {l : List Nd} {i : Int} {j : Nat} {b : Int} {p : List Int} (h : Leads l i p) (hj : (akids l i)[j]? = some b) (h0 : 0 ≤ b) : Leads l b (p ++ [(j : Int)]) := by
  obtain ⟨hw, -, hp⟩ := h
  refine ⟨hw, h0, ?_⟩
  rw [down_add, hp, down_go hj]
  rfl
set_option maxRecDepth 100000 in
set_option maxHeartbeats 2000000 in
theorem ref_Of_go (A : Option Addr) (c : Nat) (l : List Nd) (hl : l.length ≤ 1000000) (hw : Whole l) : ∀ (b : Nat), b < l.length → ∀ (w : World), Nodes w w.heap.size A l →
    Calls Try.prog 10 #[.slice A l.length c, .int .i64 b] w (PathEnds l b w) := by
  intro b
  induction b using Nat.strongRecOn with
  | _ b ih =>
    intro hb w hx
    have HX := Lib.hid hx
    have hE := ref_End_any A c l 0 w hx hl
    rw [show aend l 0 = l.length from hw] at hE
    have HE := Lib.hid hE
    have i1 : (b : Int) < (l.length : Int) := by omega
    have i2 : ¬ (b : Int) < 0 := by omega
    have i3 : ¬ (l.length : Int) ≤ (b : Int) := by omega
    have hne : ¬ l = [] := fun e => by rw [e] at hb; simp at hb
    clear hx hE
    by_cases h0 : b = 0
    · subst h0
      have HL := Lib.hid (leads_0 hw)
      clear ih
      go_enter Try.func10, Try.ntmps10
      go_wp2_with (go_at_call 20; refine HE.out.mono ?_; rintro e w1 ⟨rfl, hb1⟩)
      go_ret2
      exact ⟨hb1, .inl ⟨[], none, 0, HL.out, rfl, Nat.le_refl _, fun _ => rfl, fun i x h => by simp at h⟩⟩
    · have e0 : ((b : Int) == 0) = false := by rw [beq_eq_false_iff_ne]; omega
      have HU := Lib.hid (fun W hW => ref_up_any A c l hl hw b (by omega) hb W hW)
      have HIH := Lib.hid ih
      have HW := Lib.hid hw
      clear ih h0
      go_enter Try.func10, Try.ntmps10
      go_wp2_with (go_at_call 20; refine HE.out.mono ?_; rintro e w1 ⟨rfl, hb1⟩)
      refine (HU.out _ (Nodes.at HX.out hb1)).mono ?_
      rintro e w2 ⟨hb2, i, j, hi, hj, rfl⟩
      have hB2 := hb1.trans (hb2.mono hb1.size)
      obtain ⟨p, hp⟩ := leads_ex HW.out (b := (i : Int)) (by omega) (by omega)
      have HC := Lib.hid ((HIH.out i (by omega) (by omega) w2 (Nodes.at HX.out hB2)).mono (fun e w' h => h.ok hp))
      have HL := Lib.hid (leads_kid hp hj (by omega))
      have hpl := hp.rng
      clear hp hj
      go_wp2_with fail
      refine HC.out.mono ?_
      rintro e w3 ⟨hb3, A3, c3, rfl, h3c, h3n, h3r⟩
      have hB3 := hB2.trans (hb3.mono hB2.size)
      have hO4 := World.ownsRow_lit (e := 3) (size := 1) (base := w.heap.size) w3 #[] 0 hB3.size (by simp [maxLen]) (by simp)
      have hB4 := hB3.alloc hB3.size (.cells #[] 3)
      have hr4 := h3r.at ((Below.refl _ _).alloc (Nat.le_refl _) (.cells #[] 3))
      go_wp2_with (first
        | (at_builtin; refine append_ints rfl _ _ rfl w.heap.size hB4.size _ [] rfl hO4 _ A3 c3 p _ rfl rfl h3n hr4 (by simp; omega) ?_; intro v5 w5 hown5 hgr5 hat5
           have hB5 := hB4.grown hgr5 hB4.size (fun i hi => by have := (hO4.lt i hi).1; exact this)
           have hO6 := hown5.alloc (.cells #[.int .i64 j] 3)
           have hB6 := hB5.alloc hB5.size (.cells #[.int .i64 j] 3)
           have hr6 := IRow.of_blk (B := w5.heap.size + 1) (ks := [(j : Int)]) (Blk.new w5 3 #[.int .i64 j]) (Nat.lt_succ_self _))
        | (at_builtin; refine append_ints rfl _ _ rfl w.heap.size hB6.size _ ([] ++ p) rfl hO6 _ (some ⟨w5.heap.size, 0, none⟩) 1 [(j : Int)] 1 rfl rfl (fun e => by cases e) hr6 (by simp; omega) ?_; intro v7 w7 hown7 hgr7 hat7
           have hB7 := hB6.grown hgr7 hB6.size (fun i hi => (hown5.lt i hi).1)
           obtain ⟨A7, c7, rfl, h7c, h7n, h7r, -⟩ := own_ints2' hown7)
        | fail)
      go_ret2
      exact ⟨hB7, .inl ⟨p ++ [(j : Int)], A7, c7, HL.out, by rw [List.length_append]; rfl, h7c, h7n, h7r⟩⟩
theorem ref_Of_any (A : Option Addr) (c : Nat) (l : List Nd) (hl : l.length ≤ 1000000) (b : Int) (w : World) (hx : Nodes w w.heap.size A l) :
    Calls Try.prog 10 #[.slice A l.length c, .int .i64 b] w (PathEnds l b w) := by
  by_cases hw : Whole l
  · by_cases hr : 0 ≤ b ∧ b < l.length
    · obtain ⟨n, rfl⟩ := Int.eq_ofNat_of_zero_le hr.1
      exact ref_Of_go A c l hl hw n (by omega) w hx
    · have hE := ref_End_any A c l 0 w hx hl
      rw [show aend l 0 = l.length from hw] at hE
      have HE := Lib.hid hE
      have HN := Lib.hid (not_in (l := l) (b := b) (by omega))
      clear hE hx
      by_cases hneg : b < 0
      · clear hr
        go_enter Try.func10, Try.ntmps10
        go_wp2_with (go_at_call 20; refine HE.out.mono ?_; rintro e w1 ⟨rfl, hb1⟩)
        go_ret2
        exact ⟨hb1, .inr ⟨HN.out, none, 0, rfl⟩⟩
      · have hge : (l.length : Int) ≤ b := by omega
        clear hr
        go_enter Try.func10, Try.ntmps10
        go_wp2_with (go_at_call 20; refine HE.out.mono ?_; rintro e w1 ⟨rfl, hb1⟩)
        go_ret2
        exact ⟨hb1, .inr ⟨HN.out, none, 0, rfl⟩⟩
  · have HE := Lib.hid (ref_End_any A c l 0 w hx hl)
    have HN := Lib.hid (not_whole hw b)
    have e1 : (aend l 0 == (l.length : Int)) = false := by
      rw [beq_eq_false_iff_ne]; exact hw
    have e2 : (aend l 0 != (l.length : Int)) = true := by simp [bne, e1]
    clear hw hx
    go_enter Try.func10, Try.ntmps10
    go_wp2_with (go_at_call 20; refine HE.out.mono ?_; rintro e w1 ⟨rfl, hb1⟩)
    go_ret2
    exact ⟨hb1, .inr ⟨HN.out, none, 0, rfl⟩⟩

end Go.Proofs.Ytjjdpjdmeeholaa.Path
