/-
  The reference of machine, walked: every node of a typed program, entered, does what it means.
  The reference of machine, walked: may a program be run; are events alike, and runs.
-/
import Derived.Test.YtodejloonfkkmaaMachI
import Derived.Test.YtodejloonfkkmaaMachG
import Derived.Deep.RegionHeld3
import Derived.Deep.DrawnRows
set_option linter.unusedVariables false
namespace Go.Proofs.Ytodejloonfkkmaa.Mach
open Go.RowKit Mem _root_.Go.Proofs.Ytodejloonfkkmaa.Arena _root_.Go.Proofs.Ytodejloonfkkmaa.Kinds _root_.Go.Proofs.Ytodejloonfkkmaa.Path _root_.Go.Proofs.Ytodejloonfkkmaa.Cat _root_.Go.Proofs.Ytodejloonfkkmaa.Suite

/-- A state that may be entered. -/
def Fine (p : Prg) (s : St) : Prop := s.over = false → WT p.vs s ∧ Fits s
theorem KidOk.cast {T : TypeId} {base g : Nat} {p : Prg} {vv av : Value} {q : Int} {s : St} {r r' : St × Int} (h : KidOk T base g p vv av q s r) (e : r = r') : KidOk T base g p vv av q s r' := e ▸ h
section
variable {T : TypeId} {base g : Nat} {p : Prg} {vv av : Value}
/-- EVERY NODE, ENTERED, DOES WHAT IT MEANS. -/
theorem enter_any (hall : ∀ k n : Nat, scan 1 (p.xs.drop k) = some n → 0 ≤ okind p.vs p.xs k) (F : Nat) :
    ∀ (k n : Nat) (s : St), s.fuel < F → scan 1 (p.xs.drop k) = some n → Fine p s → KidOk T base g p vv av k s (mean p.xs k s) := by
  induction F with
  | zero => intro k n s hF; omega
  | succ F ih =>
    intro k n s hF h hfine κ evv Y W hS hE
    by_cases ho : s.over = true
    · rw [mean_over h ho]
      exact enter_over_any hS ho k
    have ho : s.over = false := by simpa using ho
    obtain ⟨hwt, hf⟩ := hfine ho
    obtain ⟨t, N, hx, hm, hl, hc⟩ := typed_cases h (hall k n h)
    have hnk : ∀ m ∈ (akids p.xs k).map (mean p.xs), Nice m := fun m hm => by
      obtain ⟨q, -, rfl⟩ := List.mem_map.1 hm
      exact nice_mean _ _
    by_cases h0 : s.fuel = 0
    · rw [hm, node_out hnk ho h0]
      exact enter_out_any hS ho h0 k
    have hto : s.tick.over = false := ho
    have htf : s.tick.fuel < F := by show s.fuel - 1 < F; omega
    have hf1 := hf.tick h0
    -- a kid
    have kid : ∀ (q : Int) (s' : St), q ∈ akids p.xs k → s'.fuel < F → Fine p s' → KidOk T base g p vv av q s' (mean p.xs q s') := fun q s' hq h1 h2 => by
      obtain ⟨j, n', rfl, hj⟩ := kid_node h hq
      exact ih j n' s' h1 hj h2
    have fineT : Fine p s.tick := fun _ => ⟨hwt.tick, hf1.fits⟩
    -- behind a kid
    have snd : ∀ (q : Int) (s' : St), q ∈ akids p.xs k → s'.over = false → s'.fuel < F → WT p.vs s' → Fits1 s' → WT p.vs (mean p.xs q s').1 ∧ ((mean p.xs q s').1.over = false → Of1 (okind p.vs p.xs q) (mean p.xs q s').2) ∧ Fits1 (mean p.xs q s').1 ∧ (mean p.xs q s').1.fuel < F := fun q s' hq h1 h2 h3 h4 => by
      obtain ⟨j, n', rfl, hj⟩ := kid_node h hq
      obtain ⟨a1, a2⟩ := sound_mean hall _ j n' (Nat.le_refl _) hj s' h3 h1
      exact ⟨a1, a2, h4.mean h1 _ _, Nat.lt_of_le_of_lt (mean_fuel h1 _ _) h2⟩
    unfold Cases at hc
    rcases hc with ht | ⟨ht, hv⟩ | ht | ht | ⟨ht, hv, q, hq⟩ | ⟨ht, q, hq⟩ | ⟨ht1, ht2, q, q2, hq⟩ | ⟨ht, q, q2, hq⟩ | ⟨ht, q, q2, hq⟩ | ⟨ht, hv, q, hq⟩ | ⟨ht, hv, q, q2, hq⟩ | ⟨ht, q, q2, q3, hq, hk1⟩ | ⟨ht, q, q2, hq, hk1⟩ | ⟨ht, q, hq⟩
    -- a number
    · have e : mean p.xs k s = (s.tick, N) := by
        rw [hm, node_on (by omega) ho h0]
        unfold innerM
        simp only
        rw [if_pos ht]; rfl
      rw [e]
      exact enter_num hS hE hf ho h0 hx ht
    -- a variable
    · have hvt : 0 ≤ vtyp p.vs N := by omega
      obtain ⟨v1, v2, -⟩ := vtyp_nat hvt
      obtain ⟨m, rfl⟩ := Int.eq_ofNat_of_zero_le v1
      have hm2 : m < s.vals.length := by rw [hwt.nv]; omega
      have e : mean p.xs k s = (s.tick, s.vals[m]) := by
        rw [hm, node_on (by omega) ho h0]
        unfold innerM
        simp only
        rw [if_neg (by omega), if_pos ht]
        unfold getV
        rw [Int.toNat_natCast, List.getD_eq_getElem?_getD, show s.tick.vals = s.vals from rfl, List.getElem?_eq_getElem hm2]; rfl
      rw [e]
      exact enter_var hS hE hf ho h0 hx ht rfl (List.getElem?_eq_getElem hm2)
    -- nothing
    · have e : mean p.xs k s = (s.tick, 0) := by
        rw [hm, node_on (by omega) ho h0]
        unfold innerM
        simp only
        rw [if_neg (by omega), if_neg (by omega), if_pos ht]; rfl
      rw [e]
      exact enter_skip hS hE hf ho h0 hx ht
    -- a block
    · have hrest : ∀ m ∈ (akids p.xs k).map (mean p.xs), Rests m := fun m hm => by
        obtain ⟨q, hq, rfl⟩ := List.mem_map.1 hm
        obtain ⟨j, n', rfl, hj⟩ := kid_node h hq
        exact fun s' hs => mean_over hj hs
      have e : mean p.xs k s = (runM ((akids p.xs k).map (mean p.xs)) s.tick, 0) := by
        rw [hm, node_on (by omega) ho h0]
        unfold innerM
        simp only
        rw [if_neg (by omega), if_neg (by omega), if_neg (by omega), if_pos ht]
        exact seq_run _ hrest _
      have hlk : (akids p.xs k).length ≤ 1000000 := by
        have := (ar_le (t, N)).2
        omega
      -- the states
      have hall2 : ∀ j, j ≤ (akids p.xs k).length → (runM (((akids p.xs k).map (mean p.xs)).take j) s.tick).fuel < F ∧ ((runM (((akids p.xs k).map (mean p.xs)).take j) s.tick).over = false → WT p.vs (runM (((akids p.xs k).map (mean p.xs)).take j) s.tick) ∧ Fits1 (runM (((akids p.xs k).map (mean p.xs)).take j) s.tick)) := fun j => by
        induction j with
        | zero => intro _; exact ⟨htf, fun _ => ⟨hwt.tick, hf1⟩⟩
        | succ j ihj =>
          intro hj
          obtain ⟨a1, a2⟩ := ihj (by omega)
          obtain ⟨q, hq⟩ : ∃ q, (akids p.xs k)[j]? = some q := ⟨_, List.getElem?_eq_getElem (by omega)⟩
          have hqm := List.mem_of_getElem? hq
          rw [runM_succ (m := mean p.xs q) (by rw [List.getElem?_map, hq]; rfl)]
          generalize runM (((akids p.xs k).map (mean p.xs)).take j) s.tick = sj at a1 a2 ⊢
          by_cases hoj : sj.over = true
          · rw [hrest _ (List.mem_map.2 ⟨q, hqm, rfl⟩) sj hoj]
            exact ⟨a1, fun z => by rw [hoj] at z; cases z⟩
          · have hoj : sj.over = false := by simpa using hoj
            obtain ⟨w1, w2⟩ := a2 hoj
            obtain ⟨c1, -, c3, c4⟩ := snd q sj hqm hoj a1 w1 w2
            exact ⟨c4, fun _ => ⟨c1, c3⟩⟩
      rw [e]
      have hkn : ((akids p.xs k).map (mean p.xs)).take (akids p.xs k).length = (akids p.xs k).map (mean p.xs) := List.take_of_length_le (by rw [List.length_map]; exact Nat.le_refl _)
      have := enter_block hS hE hf ho h0 hx ht hlk (fun j => runM (((akids p.xs k).map (mean p.xs)).take j) s.tick) rfl (fun j q hq => by
        have hjl := (List.getElem?_eq_some_iff.1 hq).1
        obtain ⟨a1, a2⟩ := hall2 j (by omega)
        refine ⟨(mean p.xs q (runM (((akids p.xs k).map (mean p.xs)).take j) s.tick)).2, ?_⟩
        refine (kid q _ (List.mem_of_getElem? hq) a1 fun z => ⟨(a2 z).1, (a2 z).2.fits⟩).cast ?_
        exact Prod.ext (runM_succ (m := mean p.xs q) (by rw [List.getElem?_map, hq]; rfl) _).symm rfl)
      simp only [hkn] at this
      exact this
    · have hq1 : q ∈ akids p.xs k := by rw [hq]; exact List.mem_cons_self ..
      have K1 := kid q s.tick hq1 htf fineT
      obtain ⟨r1, r2, r3, r4⟩ := snd q s.tick hq1 hto htf hwt.tick hf1
      rw [hq] at hm
      simp only [List.map_cons, List.map_nil] at hm
      generalize hr : mean p.xs q s.tick = r at K1 r1 r2 r3 r4
      by_cases hso : r.1.over = true
      · have e : mean p.xs k s = (r.1, 0) := by
          rw [hm, node_on (by omega) ho h0, inner_kid (by omega) (by omega) (by omega) (by omega) (by omega), bind_over (by rw [hr]; exact hso), hr]
        rw [e]
        exact enter_first hS hE hf ho h0 hx (by omega) (by omega) (by omega) (by omega) (by omega) hq K1 hso
      have hso : r.1.over = false := by simpa using hso
      have e0 : mean p.xs k s = behindM (t, N) [mean p.xs q] r.2 r.1 := by
        rw [hm, node_on (by omega) ho h0, inner_kid (by omega) (by omega) (by omega) (by omega) (by omega), bind_on (by rw [hr]; exact hso), hr]
      have hev : r.1.ev.length < 100000000 := by have := r3.ev; have := r3.top; omega
      have hvt : 0 ≤ vtyp p.vs N := by unfold asz at hv; split at hv <;> omega
      obtain ⟨v1, v2, -⟩ := vtyp_nat hvt
      obtain ⟨m, rfl⟩ := Int.eq_ofNat_of_zero_le v1
      have hm2 : m < r.1.arrs.length := by rw [r1.na]; omega
      have e1 : mean p.xs k s = getA m r.2 r.1 := by
        rw [e0]
        unfold behindM
        simp only
        rw [if_pos ht]
      rw [e1]
      exact enter_at hS hE hf ho h0 hx ht hq K1 hso rfl (List.getElem?_eq_getElem hm2)
    · have hq1 : q ∈ akids p.xs k := by rw [hq]; exact List.mem_cons_self ..
      have K1 := kid q s.tick hq1 htf fineT
      obtain ⟨r1, r2, r3, r4⟩ := snd q s.tick hq1 hto htf hwt.tick hf1
      rw [hq] at hm
      simp only [List.map_cons, List.map_nil] at hm
      generalize hr : mean p.xs q s.tick = r at K1 r1 r2 r3 r4
      have hu := enter_un hS hE hf ho h0 hx ht hq K1
      by_cases hso : r.1.over = true
      · have e : mean p.xs k s = (r.1, 0) := by
          rw [hm, node_on (by omega) ho h0, inner_kid (by omega) (by omega) (by omega) (by omega) (by omega), bind_over (by rw [hr]; exact hso), hr]
        rw [e]
        exact enter_first hS hE hf ho h0 hx (by omega) (by omega) (by omega) (by omega) (by omega) hq K1 hso
      have hso : r.1.over = false := by simpa using hso
      have e0 : mean p.xs k s = behindM (t, N) [mean p.xs q] r.2 r.1 := by
        rw [hm, node_on (by omega) ho h0, inner_kid (by omega) (by omega) (by omega) (by omega) (by omega), bind_on (by rw [hr]; exact hso), hr]
      have hev : r.1.ev.length < 100000000 := by have := r3.ev; have := r3.top; omega
      rw [if_neg (by rw [hso]; decide)] at hu
      have e1 : mean p.xs k s = (r.1, if t = 5 then wrap64 (-r.2) else wrap64 (1 - r.2)) := by
        rw [e0]
        unfold behindM
        simp only
        rw [if_neg (by omega)]
        by_cases h5 : t = 5
        · rw [if_pos h5, if_pos h5, Int.zero_sub, IntWalk.i64_left]; rfl
        · rw [if_neg h5, if_neg h5, if_pos (by omega), IntWalk.i64_left]; rfl
      rw [e1]
      exact hu
    · have hq1 : q ∈ akids p.xs k := by rw [hq]; exact List.mem_cons_self ..
      have K1 := kid q s.tick hq1 htf fineT
      obtain ⟨r1, r2, r3, r4⟩ := snd q s.tick hq1 hto htf hwt.tick hf1
      rw [hq] at hm
      simp only [List.map_cons, List.map_nil] at hm
      generalize hr : mean p.xs q s.tick = r at K1 r1 r2 r3 r4
      by_cases hso : r.1.over = true
      · have e : mean p.xs k s = (r.1, 0) := by
          rw [hm, node_on (by omega) ho h0, inner_kid (by omega) (by omega) (by omega) (by omega) (by omega), bind_over (by rw [hr]; exact hso), hr]
        rw [e]
        exact enter_first hS hE hf ho h0 hx (by omega) (by omega) (by omega) (by omega) (by omega) hq K1 hso
      have hso : r.1.over = false := by simpa using hso
      have e0 : mean p.xs k s = behindM (t, N) [mean p.xs q, mean p.xs q2] r.2 r.1 := by
        rw [hm, node_on (by omega) ho h0, inner_kid (by omega) (by omega) (by omega) (by omega) (by omega), bind_on (by rw [hr]; exact hso), hr]
      have hev : r.1.ev.length < 100000000 := by have := r3.ev; have := r3.top; omega
      have hq2 : q2 ∈ akids p.xs k := by rw [hq]; simp
      have K2 := kid q2 r.1 hq2 r4 (fun _ => ⟨r1, r3.fits⟩)
      obtain ⟨w1, -, w3, w4⟩ := snd q2 r.1 hq2 hso r4 r1 r3
      generalize hr' : mean p.xs q2 r.1 = r' at K2 w1 w3 w4
      have e1 : mean p.xs k s = (bindM (mean p.xs q2) fun b => if t = 22 then setA N r.2 b else bin t r.2 b) r.1 := by
        rw [e0, behind_two (by omega) (by omega) (by omega) (by omega) (by omega) (by omega) (by omega) (by omega)]
      by_cases hso2 : r'.1.over = true
      · rw [bind_over (by rw [hr']; exact hso2), hr'] at e1
        rw [e1]
        exact enter_second hS hE hf ho h0 hx (by omega) (by omega) (by omega) (by omega) (by omega) (by omega) (by omega) (by omega) (by omega) (by omega) (by omega) (by omega) (by omega) (by omega) hq K1 K2 hso hso2
      have hso2 : r'.1.over = false := by simpa using hso2
      rw [bind_on (by rw [hr']; exact hso2), hr'] at e1
      rw [if_neg (by omega)] at e1
      rw [e1]
      exact enter_bin hS hE hf ho h0 hx ⟨ht1, ht2⟩ hq K1 K2 hso hso2
    · have hq1 : q ∈ akids p.xs k := by rw [hq]; exact List.mem_cons_self ..
      have K1 := kid q s.tick hq1 htf fineT
      obtain ⟨r1, r2, r3, r4⟩ := snd q s.tick hq1 hto htf hwt.tick hf1
      rw [hq] at hm
      simp only [List.map_cons, List.map_nil] at hm
      generalize hr : mean p.xs q s.tick = r at K1 r1 r2 r3 r4
      by_cases hso : r.1.over = true
      · have e : mean p.xs k s = (r.1, 0) := by
          rw [hm, node_on (by omega) ho h0, inner_kid (by omega) (by omega) (by omega) (by omega) (by omega), bind_over (by rw [hr]; exact hso), hr]
        rw [e]
        exact enter_first hS hE hf ho h0 hx (by omega) (by omega) (by omega) (by omega) (by omega) hq K1 hso
      have hso : r.1.over = false := by simpa using hso
      have e0 : mean p.xs k s = behindM (t, N) [mean p.xs q, mean p.xs q2] r.2 r.1 := by
        rw [hm, node_on (by omega) ho h0, inner_kid (by omega) (by omega) (by omega) (by omega) (by omega), bind_on (by rw [hr]; exact hso), hr]
      have hev : r.1.ev.length < 100000000 := by have := r3.ev; have := r3.top; omega
      have hq2 : q2 ∈ akids p.xs k := by rw [hq]; simp
      have K2 := kid q2 r.1 hq2 r4 (fun _ => ⟨r1, r3.fits⟩)
      obtain ⟨w1, -, w3, w4⟩ := snd q2 r.1 hq2 hso r4 r1 r3
      generalize hr' : mean p.xs q2 r.1 = r' at K2 w1 w3 w4
      have e1 : mean p.xs k s = (if r.2 = 0 then (r.1, 0) else r') := by
        rw [e0]
        unfold behindM
        simp only
        rw [if_neg (by omega), if_neg (by omega), if_neg (by omega), if_pos ht]
        split
        · rfl
        · exact hr'
      rw [e1]
      exact enter_and hS hE hf ho h0 hx ht hq K1 K2 hso
    · have hq1 : q ∈ akids p.xs k := by rw [hq]; exact List.mem_cons_self ..
      have K1 := kid q s.tick hq1 htf fineT
      obtain ⟨r1, r2, r3, r4⟩ := snd q s.tick hq1 hto htf hwt.tick hf1
      rw [hq] at hm
      simp only [List.map_cons, List.map_nil] at hm
      generalize hr : mean p.xs q s.tick = r at K1 r1 r2 r3 r4
      by_cases hso : r.1.over = true
      · have e : mean p.xs k s = (r.1, 0) := by
          rw [hm, node_on (by omega) ho h0, inner_kid (by omega) (by omega) (by omega) (by omega) (by omega), bind_over (by rw [hr]; exact hso), hr]
        rw [e]
        exact enter_first hS hE hf ho h0 hx (by omega) (by omega) (by omega) (by omega) (by omega) hq K1 hso
      have hso : r.1.over = false := by simpa using hso
      have e0 : mean p.xs k s = behindM (t, N) [mean p.xs q, mean p.xs q2] r.2 r.1 := by
        rw [hm, node_on (by omega) ho h0, inner_kid (by omega) (by omega) (by omega) (by omega) (by omega), bind_on (by rw [hr]; exact hso), hr]
      have hev : r.1.ev.length < 100000000 := by have := r3.ev; have := r3.top; omega
      have hq2 : q2 ∈ akids p.xs k := by rw [hq]; simp
      have K2 := kid q2 r.1 hq2 r4 (fun _ => ⟨r1, r3.fits⟩)
      obtain ⟨w1, -, w3, w4⟩ := snd q2 r.1 hq2 hso r4 r1 r3
      generalize hr' : mean p.xs q2 r.1 = r' at K2 w1 w3 w4
      have e1 : mean p.xs k s = (if r.2 = 1 then (r.1, 1) else r') := by
        rw [e0]
        unfold behindM
        simp only
        rw [if_neg (by omega), if_neg (by omega), if_neg (by omega), if_neg (by omega), if_pos ht]
        split
        · rfl
        · exact hr'
      rw [e1]
      exact enter_or hS hE hf ho h0 hx ht hq K1 K2 hso
    · have hq1 : q ∈ akids p.xs k := by rw [hq]; exact List.mem_cons_self ..
      have K1 := kid q s.tick hq1 htf fineT
      obtain ⟨r1, r2, r3, r4⟩ := snd q s.tick hq1 hto htf hwt.tick hf1
      rw [hq] at hm
      simp only [List.map_cons, List.map_nil] at hm
      generalize hr : mean p.xs q s.tick = r at K1 r1 r2 r3 r4
      by_cases hso : r.1.over = true
      · have e : mean p.xs k s = (r.1, 0) := by
          rw [hm, node_on (by omega) ho h0, inner_kid (by omega) (by omega) (by omega) (by omega) (by omega), bind_over (by rw [hr]; exact hso), hr]
        rw [e]
        exact enter_first hS hE hf ho h0 hx (by omega) (by omega) (by omega) (by omega) (by omega) hq K1 hso
      have hso : r.1.over = false := by simpa using hso
      have e0 : mean p.xs k s = behindM (t, N) [mean p.xs q] r.2 r.1 := by
        rw [hm, node_on (by omega) ho h0, inner_kid (by omega) (by omega) (by omega) (by omega) (by omega), bind_on (by rw [hr]; exact hso), hr]
      have hev : r.1.ev.length < 100000000 := by have := r3.ev; have := r3.top; omega
      have hvt : 0 ≤ vtyp p.vs N := by omega
      obtain ⟨v1, v2, -⟩ := vtyp_nat hvt
      obtain ⟨m, rfl⟩ := Int.eq_ofNat_of_zero_le v1
      have hm2 : m < r.1.vals.length := by rw [r1.nv]; omega
      have e1 : mean p.xs k s = setV m r.2 r.1 := by
        rw [e0]
        unfold behindM
        simp only
        rw [if_neg (by omega), if_neg (by omega), if_neg (by omega), if_neg (by omega), if_neg (by omega), if_pos ht]
      rw [e1]
      exact enter_set hS hE hf ho h0 hx ht hq K1 hso rfl hm2 hev
    · have hq1 : q ∈ akids p.xs k := by rw [hq]; exact List.mem_cons_self ..
      have K1 := kid q s.tick hq1 htf fineT
      obtain ⟨r1, r2, r3, r4⟩ := snd q s.tick hq1 hto htf hwt.tick hf1
      rw [hq] at hm
      simp only [List.map_cons, List.map_nil] at hm
      generalize hr : mean p.xs q s.tick = r at K1 r1 r2 r3 r4
      by_cases hso : r.1.over = true
      · have e : mean p.xs k s = (r.1, 0) := by
          rw [hm, node_on (by omega) ho h0, inner_kid (by omega) (by omega) (by omega) (by omega) (by omega), bind_over (by rw [hr]; exact hso), hr]
        rw [e]
        exact enter_first hS hE hf ho h0 hx (by omega) (by omega) (by omega) (by omega) (by omega) hq K1 hso
      have hso : r.1.over = false := by simpa using hso
      have e0 : mean p.xs k s = behindM (t, N) [mean p.xs q, mean p.xs q2] r.2 r.1 := by
        rw [hm, node_on (by omega) ho h0, inner_kid (by omega) (by omega) (by omega) (by omega) (by omega), bind_on (by rw [hr]; exact hso), hr]
      have hev : r.1.ev.length < 100000000 := by have := r3.ev; have := r3.top; omega
      have hq2 : q2 ∈ akids p.xs k := by rw [hq]; simp
      have K2 := kid q2 r.1 hq2 r4 (fun _ => ⟨r1, r3.fits⟩)
      obtain ⟨w1, -, w3, w4⟩ := snd q2 r.1 hq2 hso r4 r1 r3
      generalize hr' : mean p.xs q2 r.1 = r' at K2 w1 w3 w4
      have e1 : mean p.xs k s = (bindM (mean p.xs q2) fun b => if t = 22 then setA N r.2 b else bin t r.2 b) r.1 := by
        rw [e0, behind_two (by omega) (by omega) (by omega) (by omega) (by omega) (by omega) (by omega) (by omega)]
      by_cases hso2 : r'.1.over = true
      · rw [bind_over (by rw [hr']; exact hso2), hr'] at e1
        rw [e1]
        exact enter_second hS hE hf ho h0 hx (by omega) (by omega) (by omega) (by omega) (by omega) (by omega) (by omega) (by omega) (by omega) (by omega) (by omega) (by omega) (by omega) (by omega) hq K1 K2 hso hso2
      have hso2 : r'.1.over = false := by simpa using hso2
      rw [bind_on (by rw [hr']; exact hso2), hr'] at e1
      have hvt : 0 ≤ vtyp p.vs N := by unfold asz at hv; split at hv <;> omega
      obtain ⟨v1, v2, -⟩ := vtyp_nat hvt
      obtain ⟨m, rfl⟩ := Int.eq_ofNat_of_zero_le v1
      have hm2 : m < r'.1.arrs.length := by rw [w1.na]; omega
      rw [if_pos ht] at e1
      rw [e1]
      exact enter_put hS hE hf ho h0 hx ht hq K1 K2 hso hso2 rfl (List.getElem?_eq_getElem hm2) (by have := w3.ev; have := w3.top; omega)
    · have hq1 : q ∈ akids p.xs k := by rw [hq]; exact List.mem_cons_self ..
      have K1 := kid q s.tick hq1 htf fineT
      obtain ⟨r1, r2, r3, r4⟩ := snd q s.tick hq1 hto htf hwt.tick hf1
      rw [hq] at hm
      simp only [List.map_cons, List.map_nil] at hm
      generalize hr : mean p.xs q s.tick = r at K1 r1 r2 r3 r4
      by_cases hso : r.1.over = true
      · have e : mean p.xs k s = (r.1, 0) := by
          rw [hm, node_on (by omega) ho h0, inner_kid (by omega) (by omega) (by omega) (by omega) (by omega), bind_over (by rw [hr]; exact hso), hr]
        rw [e]
        exact enter_first hS hE hf ho h0 hx (by omega) (by omega) (by omega) (by omega) (by omega) hq K1 hso
      have hso : r.1.over = false := by simpa using hso
      have e0 : mean p.xs k s = behindM (t, N) [mean p.xs q, mean p.xs q2, mean p.xs q3] r.2 r.1 := by
        rw [hm, node_on (by omega) ho h0, inner_kid (by omega) (by omega) (by omega) (by omega) (by omega), bind_on (by rw [hr]; exact hso), hr]
      have hev : r.1.ev.length < 100000000 := by have := r3.ev; have := r3.top; omega
      have hq2 : q2 ∈ akids p.xs k := by rw [hq]; simp
      have hq3 : q3 ∈ akids p.xs k := by rw [hq]; simp
      have e1 : mean p.xs k s = (if r.2 = 1 then mean p.xs q2 r.1 else mean p.xs q3 r.1) := by
        rw [e0]
        unfold behindM
        simp only
        rw [if_neg (by omega), if_neg (by omega), if_neg (by omega), if_neg (by omega), if_neg (by omega), if_neg (by omega), if_pos ht]
        split
        · rfl
        · rfl
      rw [e1]
      refine enter_if hS hE hf ho h0 hx ht hq K1 ?_ hso
      rcases r2 hso hk1 with z | z
      · right
        refine ⟨z, ?_⟩
        rw [if_neg (by omega)]
        exact kid q3 r.1 hq3 r4 (fun _ => ⟨r1, r3.fits⟩)
      · left
        refine ⟨z, ?_⟩
        rw [if_pos z]
        exact kid q2 r.1 hq2 r4 (fun _ => ⟨r1, r3.fits⟩)
    · have hq1 : q ∈ akids p.xs k := by rw [hq]; exact List.mem_cons_self ..
      have K1 := kid q s.tick hq1 htf fineT
      obtain ⟨r1, r2, r3, r4⟩ := snd q s.tick hq1 hto htf hwt.tick hf1
      rw [hq] at hm
      simp only [List.map_cons, List.map_nil] at hm
      generalize hr : mean p.xs q s.tick = r at K1 r1 r2 r3 r4
      have hq2 : q2 ∈ akids p.xs k := by rw [hq]; simp
      have hwm : mean p.xs k = whileM (mean p.xs q) (mean p.xs q2) := by
        rw [hm]
        unfold nodeM
        rw [if_pos ht]
        rfl
      have hrs : Rests (mean p.xs q2) := by
        obtain ⟨j, n', rfl, hj⟩ := kid_node h hq2
        exact fun s' hs => mean_over hj hs
      by_cases hso : r.1.over = true
      · have e : mean p.xs k s = (r.1, 0) := by
          rw [hwm, while_first (nice_mean _ _) (nice_mean _ _) ho h0 (by rw [hr]; exact hso), hr]
        rw [e]
        exact enter_first hS hE hf ho h0 hx (by omega) (by omega) (by omega) (by omega) (by omega) hq K1 hso
      have hso : r.1.over = false := by simpa using hso
      have e : mean p.xs k s = (if r.2 = 1 then (mean p.xs k (mean p.xs q2 r.1).1).1 else r.1, 0) := by
        conv => lhs; rw [hwm]
        rw [while_step (nice_mean _ _) (nice_mean _ _) hrs ho h0 (by rw [hr]; exact hso), hr, ← hwm]
      obtain ⟨w1, -, w3, w4⟩ := snd q2 r.1 hq2 hso r4 r1 r3
      rw [e]
      exact enter_while hS hE hf ho h0 hx ht hq K1 (fun _ => kid q2 r.1 hq2 r4 (fun _ => ⟨r1, r3.fits⟩)) hso (fun _ => ih k n _ w4 h (fun z => ⟨w1, w3.fits⟩))
    · have hq1 : q ∈ akids p.xs k := by rw [hq]; exact List.mem_cons_self ..
      have K1 := kid q s.tick hq1 htf fineT
      obtain ⟨r1, r2, r3, r4⟩ := snd q s.tick hq1 hto htf hwt.tick hf1
      rw [hq] at hm
      simp only [List.map_cons, List.map_nil] at hm
      generalize hr : mean p.xs q s.tick = r at K1 r1 r2 r3 r4
      by_cases hso : r.1.over = true
      · have e : mean p.xs k s = (r.1, 0) := by
          rw [hm, node_on (by omega) ho h0, inner_kid (by omega) (by omega) (by omega) (by omega) (by omega), bind_over (by rw [hr]; exact hso), hr]
        rw [e]
        exact enter_first hS hE hf ho h0 hx (by omega) (by omega) (by omega) (by omega) (by omega) hq K1 hso
      have hso : r.1.over = false := by simpa using hso
      have e0 : mean p.xs k s = behindM (t, N) [mean p.xs q] r.2 r.1 := by
        rw [hm, node_on (by omega) ho h0, inner_kid (by omega) (by omega) (by omega) (by omega) (by omega), bind_on (by rw [hr]; exact hso), hr]
      have hev : r.1.ev.length < 100000000 := by have := r3.ev; have := r3.top; omega
      have e1 : mean p.xs k s = (r.1.stop 0 r.2, 0) := by
        rw [e0]
        unfold behindM
        simp only
        rw [if_neg (by omega), if_neg (by omega), if_neg (by omega), if_neg (by omega), if_neg (by omega), if_neg (by omega), if_neg (by omega), if_pos ht]
        rfl
      rw [e1]
      exact enter_return hS hE hf ho h0 hx ht hq K1 hso
end
end Go.Proofs.Ytodejloonfkkmaa.Mach

set_option linter.unusedVariables false
namespace Go.Proofs.Ytodejloonfkkmaa.Mach
open Go.RowKit Mem _root_.Go.Proofs.Ytodejloonfkkmaa.Arena _root_.Go.Proofs.Ytodejloonfkkmaa.Kinds _root_.Go.Proofs.Ytodejloonfkkmaa.Path _root_.Go.Proofs.Ytodejloonfkkmaa.Cat _root_.Go.Proofs.Ytodejloonfkkmaa.Suite
attribute [local go_sem ↓] Go.wp_at_zero Go.wp_at_succ

set_option maxRecDepth 100000 in
set_option maxHeartbeats 4000000 in
theorem ref_MCheck_any (p : Prg) (A : Option Addr) (c : Nat) (args : List Int) (f : Int) (w : World) (hp : p.Ok w) :
    Calls Try.prog 21 #[.agg #[.int .i64 p.ps, .slice p.A p.vs.length p.c, .slice p.B p.xs.length p.e], .slice A args.length c, .int .i64 f] w fun e w' => e = .returned (.int .i64 (mcheck p.ps p.vs p.xs args.length f)) ∧ Below w.heap.size w w' := by
  have hb0 : Below w.heap.size w (w.alloc (.cells #[.int .i64 p.ps, .slice p.A p.vs.length p.c, .slice p.B p.xs.length p.e] 25)) := (Below.refl _ _).alloc (Nat.le_refl _) _
  have bX := Blk.new w 25 #[.int .i64 p.ps, .slice p.A p.vs.length p.c, .slice p.B p.xs.length p.e]
  obtain ⟨w1, hw1⟩ : ∃ w1, w.alloc (.cells #[.int .i64 p.ps, .slice p.A p.vs.length p.c, .slice p.B p.xs.length p.e] 25) = w1 := ⟨_, rfl⟩
  rw [hw1] at hb0 bX
  have HT := Lib.hid (fun W (hb : Below w1.heap.size w1 W) => (bX.below hb bX.lt).three)
  have HV := Lib.hid (fun W (hb : Below w1.heap.size w1 W) => ref_Vars_any p W ((hp.at hb0).at hb))
  have HEn := Lib.hid (fun W (hb : Below w1.heap.size w1 W) => ref_End_any p.B p.e p.xs 0 W ((hp.at hb0).at hb).body hp.lx)
  have HO := Lib.hid (fun W (hb : Below w1.heap.size w1 W) => ref_Of_any p 0 W ((hp.at hb0).at hb))
  have HN := Lib.hid (fun W (hb : Below w1.heap.size w1 W) => ((hp.at hb0).at hb).body)
  have HM : Hid (mcheck p.ps p.vs p.xs args.length f = if avars p.ps p.vs ≠ 0 ∨ aend p.xs 0 ≠ p.xs.length then 23 else if otag p.xs 0 ≠ 20 ∨ okind p.vs p.xs 0 ≠ 2 then 23 else if (args.length : Int) ≠ p.ps then 18 else if f < 0 ∨ 10000 < f then 19 else 0) := Lib.hid rfl
  have hlx := hp.lx
  have hpos : aend p.xs 0 = p.xs.length → 0 < p.xs.length := fun h => by
    rcases aend_cases p.xs 0 with q | ⟨k, n, e, hs, e2, h1, h2⟩ <;> omega
  have hW := Lib.hid hw1
  have HB := Lib.hid hb0
  generalize mcheck p.ps p.vs p.xs args.length f = E at *
  obtain ⟨a0, ha0⟩ : ∃ a0, avars p.ps p.vs = a0 := ⟨_, rfl⟩
  obtain ⟨a1, ha1⟩ : ∃ a1, aend p.xs 0 = a1 := ⟨_, rfl⟩
  rw [ha0] at HV HM
  rw [ha1] at HEn HM hpos
  clear ha0 ha1 hp bX hw1 hb0
  have hB := Below.refl w1.heap.size w1
  have hC := HT.out _ hB
  obtain ⟨ps, pA, pc, vs, pB, pe, xs⟩ := p
  simp only at *
  by_cases h0 : a0 = 0
  · have e0 : (a0 != 0) = false := by simpa using h0
    by_cases h1 : a1 = xs.length
    · have hx0 := hpos h1
      obtain ⟨⟨t, N⟩, hx⟩ : ∃ x, xs[0]? = some x := ⟨_, List.getElem?_eq_getElem hx0⟩
      have htag : otag xs 0 = t := by
        unfold otag
        rw [show ((0 : Int).toNat) = 0 from rfl, List.getD_eq_getElem?_getD, hx]; rfl
      have hN1 := HN.out _ hB 0 _ hx
      obtain ⟨ad, rfl, -, -, -⟩ := hN1
      have HN0 := Lib.hid (fun W hb => by
        obtain ⟨ad', e, -, q0, q1⟩ := HN.out W hb 0 _ hx
        cases e
        exact (show W.cell? ad = some (.int .i64 t) ∧ True from ⟨q0, trivial⟩))
      have e1 : ((xs.length : Int) != (xs.length : Int)) = false := by simp
      have e2 : ((xs.length : Int) == 0) = false := by rw [beq_eq_false_iff_ne]; omega
      have j0 : (0 : Int) < (xs.length : Int) := by omega
      have hne : ¬ (a0 ≠ 0 ∨ a1 ≠ xs.length) := by omega
      subst h1
      rw [htag, if_neg hne] at HM
      generalize okind vs xs 0 = kk at *
      clear HN hx htag hpos hne
      by_cases h2 : t = 20
      · subst h2
        by_cases h3 : kk = 2
        · have e3 : (kk != 2) = false := by simpa using h3
          rw [if_neg (by omega)] at HM
          by_cases h4 : (args.length : Int) = ps
          · have e4 : ((args.length : Int) != ps) = false := by simpa using h4
            rw [if_neg (by omega)] at HM
            by_cases h5 : f < 0
            · have HE := Lib.hid (show E = 19 by rw [HM.out]; exact if_pos (.inl h5))
              clear HM
              go_enter Try.func21, Try.ntmps21
              go_wp2_with fail
              rw [hW.out]
              have hC := HT.out _ hB
              go_region_held3 (fun w' => w'.cell? ⟨w.heap.size, 0, none⟩ = some (.int .i64 ps) ∧ w'.cell? ⟨w.heap.size, 1, none⟩ = some (.slice pA vs.length pc) ∧ w'.cell? ⟨w.heap.size, 2, none⟩ = some (.slice (some ad) xs.length pe)) (first | (with_reducible exact hC) | (with_reducible exact HT.out _ hB.drew) | fail) (first
                | (go_at_call 35; (with_reducible refine (HV.out _ hB.drew).mono ?_); rintro e w3 ⟨rfl, hb⟩; have hB := hB.drew.trans (hb.mono hB.size); have hC := HT.out _ hB)
                | (go_at_call 36; (with_reducible refine (HEn.out _ hB).mono ?_); rintro e w4 ⟨rfl, hb4⟩; have hB := hB.trans (hb4.mono hB.size); have hC := HT.out _ hB)
                | fail)
              obtain ⟨c0, c1, c2⟩ := hC
              have n0 := (HN0.out _ hB).1
              go_wp2_with (first
                | (go_at_call 37; (with_reducible refine (HO.out _ hB).mono ?_); rintro e w5 ⟨rfl, hb5⟩; have hB := hB.trans (hb5.mono hB.size); obtain ⟨c0, c1, c2⟩ := HT.out _ hB)
                | fail)
              go_ret
              exact ⟨by rw [HE.out]; rfl, HB.out.trans (hB.mono HB.out.size)⟩
            by_cases h6 : 10000 < f
            · have HE := Lib.hid (show E = 19 by rw [HM.out]; exact if_pos (.inr h6))
              clear HM
              go_enter Try.func21, Try.ntmps21
              go_wp2_with fail
              rw [hW.out]
              have hC := HT.out _ hB
              go_region_held3 (fun w' => w'.cell? ⟨w.heap.size, 0, none⟩ = some (.int .i64 ps) ∧ w'.cell? ⟨w.heap.size, 1, none⟩ = some (.slice pA vs.length pc) ∧ w'.cell? ⟨w.heap.size, 2, none⟩ = some (.slice (some ad) xs.length pe)) (first | (with_reducible exact hC) | (with_reducible exact HT.out _ hB.drew) | fail) (first
                | (go_at_call 35; (with_reducible refine (HV.out _ hB.drew).mono ?_); rintro e w3 ⟨rfl, hb⟩; have hB := hB.drew.trans (hb.mono hB.size); have hC := HT.out _ hB)
                | (go_at_call 36; (with_reducible refine (HEn.out _ hB).mono ?_); rintro e w4 ⟨rfl, hb4⟩; have hB := hB.trans (hb4.mono hB.size); have hC := HT.out _ hB)
                | fail)
              obtain ⟨c0, c1, c2⟩ := hC
              have n0 := (HN0.out _ hB).1
              go_wp2_with (first
                | (go_at_call 37; (with_reducible refine (HO.out _ hB).mono ?_); rintro e w5 ⟨rfl, hb5⟩; have hB := hB.trans (hb5.mono hB.size); obtain ⟨c0, c1, c2⟩ := HT.out _ hB)
                | fail)
              go_ret
              exact ⟨by rw [HE.out]; rfl, HB.out.trans (hB.mono HB.out.size)⟩
            · have HE := Lib.hid (show E = 0 by rw [HM.out]; exact if_neg (by omega))
              clear HM
              go_enter Try.func21, Try.ntmps21
              go_wp2_with fail
              rw [hW.out]
              have hC := HT.out _ hB
              go_region_held3 (fun w' => w'.cell? ⟨w.heap.size, 0, none⟩ = some (.int .i64 ps) ∧ w'.cell? ⟨w.heap.size, 1, none⟩ = some (.slice pA vs.length pc) ∧ w'.cell? ⟨w.heap.size, 2, none⟩ = some (.slice (some ad) xs.length pe)) (first | (with_reducible exact hC) | (with_reducible exact HT.out _ hB.drew) | fail) (first
                | (go_at_call 35; (with_reducible refine (HV.out _ hB.drew).mono ?_); rintro e w3 ⟨rfl, hb⟩; have hB := hB.drew.trans (hb.mono hB.size); have hC := HT.out _ hB)
                | (go_at_call 36; (with_reducible refine (HEn.out _ hB).mono ?_); rintro e w4 ⟨rfl, hb4⟩; have hB := hB.trans (hb4.mono hB.size); have hC := HT.out _ hB)
                | fail)
              obtain ⟨c0, c1, c2⟩ := hC
              have n0 := (HN0.out _ hB).1
              go_wp2_with (first
                | (go_at_call 37; (with_reducible refine (HO.out _ hB).mono ?_); rintro e w5 ⟨rfl, hb5⟩; have hB := hB.trans (hb5.mono hB.size); obtain ⟨c0, c1, c2⟩ := HT.out _ hB)
                | fail)
              go_ret
              exact ⟨by rw [HE.out]; rfl, HB.out.trans (hB.mono HB.out.size)⟩
          · have HE := Lib.hid (show E = 18 by rw [HM.out]; exact if_pos h4)
            have e4 : ((args.length : Int) != ps) = true := by simpa using h4
            clear HM
            go_enter Try.func21, Try.ntmps21
            go_wp2_with fail
            rw [hW.out]
            have hC := HT.out _ hB
            go_region_held3 (fun w' => w'.cell? ⟨w.heap.size, 0, none⟩ = some (.int .i64 ps) ∧ w'.cell? ⟨w.heap.size, 1, none⟩ = some (.slice pA vs.length pc) ∧ w'.cell? ⟨w.heap.size, 2, none⟩ = some (.slice (some ad) xs.length pe)) (first | (with_reducible exact hC) | (with_reducible exact HT.out _ hB.drew) | fail) (first
              | (go_at_call 35; (with_reducible refine (HV.out _ hB.drew).mono ?_); rintro e w3 ⟨rfl, hb⟩; have hB := hB.drew.trans (hb.mono hB.size); have hC := HT.out _ hB)
              | (go_at_call 36; (with_reducible refine (HEn.out _ hB).mono ?_); rintro e w4 ⟨rfl, hb4⟩; have hB := hB.trans (hb4.mono hB.size); have hC := HT.out _ hB)
              | fail)
            obtain ⟨c0, c1, c2⟩ := hC
            have n0 := (HN0.out _ hB).1
            go_wp2_with (first
              | (go_at_call 37; (with_reducible refine (HO.out _ hB).mono ?_); rintro e w5 ⟨rfl, hb5⟩; have hB := hB.trans (hb5.mono hB.size); obtain ⟨c0, c1, c2⟩ := HT.out _ hB)
              | fail)
            go_ret
            exact ⟨by rw [HE.out]; rfl, HB.out.trans (hB.mono HB.out.size)⟩
        · have HE := Lib.hid (show E = 23 by rw [HM.out]; exact if_pos (.inr h3))
          have e3 : (kk != 2) = true := by simpa using h3
          clear HM
          go_enter Try.func21, Try.ntmps21
          go_wp2_with fail
          rw [hW.out]
          have hC := HT.out _ hB
          go_region_held3 (fun w' => w'.cell? ⟨w.heap.size, 0, none⟩ = some (.int .i64 ps) ∧ w'.cell? ⟨w.heap.size, 1, none⟩ = some (.slice pA vs.length pc) ∧ w'.cell? ⟨w.heap.size, 2, none⟩ = some (.slice (some ad) xs.length pe)) (first | (with_reducible exact hC) | (with_reducible exact HT.out _ hB.drew) | fail) (first
            | (go_at_call 35; (with_reducible refine (HV.out _ hB.drew).mono ?_); rintro e w3 ⟨rfl, hb⟩; have hB := hB.drew.trans (hb.mono hB.size); have hC := HT.out _ hB)
            | (go_at_call 36; (with_reducible refine (HEn.out _ hB).mono ?_); rintro e w4 ⟨rfl, hb4⟩; have hB := hB.trans (hb4.mono hB.size); have hC := HT.out _ hB)
            | fail)
          obtain ⟨c0, c1, c2⟩ := hC
          have n0 := (HN0.out _ hB).1
          go_wp2_with (first
            | (go_at_call 37; (with_reducible refine (HO.out _ hB).mono ?_); rintro e w5 ⟨rfl, hb5⟩; have hB := hB.trans (hb5.mono hB.size); obtain ⟨c0, c1, c2⟩ := HT.out _ hB)
            | fail)
          go_ret
          exact ⟨by rw [HE.out]; rfl, HB.out.trans (hB.mono HB.out.size)⟩
      · have HE := Lib.hid (show E = 23 by rw [HM.out]; exact if_pos (.inl h2))
        have e3 : (t != 20) = true := by simpa using h2
        clear HM
        go_enter Try.func21, Try.ntmps21
        go_wp2_with fail
        rw [hW.out]
        have hC := HT.out _ hB
        go_region_held3 (fun w' => w'.cell? ⟨w.heap.size, 0, none⟩ = some (.int .i64 ps) ∧ w'.cell? ⟨w.heap.size, 1, none⟩ = some (.slice pA vs.length pc) ∧ w'.cell? ⟨w.heap.size, 2, none⟩ = some (.slice (some ad) xs.length pe)) (first | (with_reducible exact hC) | (with_reducible exact HT.out _ hB.drew) | fail) (first
          | (go_at_call 35; (with_reducible refine (HV.out _ hB.drew).mono ?_); rintro e w3 ⟨rfl, hb⟩; have hB := hB.drew.trans (hb.mono hB.size); have hC := HT.out _ hB)
          | (go_at_call 36; (with_reducible refine (HEn.out _ hB).mono ?_); rintro e w4 ⟨rfl, hb4⟩; have hB := hB.trans (hb4.mono hB.size); have hC := HT.out _ hB)
          | fail)
        obtain ⟨c0, c1, c2⟩ := hC
        have n0 := (HN0.out _ hB).1
        go_wp2_with fail
        go_ret
        exact ⟨by rw [HE.out]; rfl, HB.out.trans (hB.mono HB.out.size)⟩
    · have HE := Lib.hid (show E = 23 by rw [HM.out]; exact if_pos (.inr h1))
      have e3 : (a1 != (xs.length : Int)) = true := by simpa using h1
      clear HM
      go_enter Try.func21, Try.ntmps21
      go_wp2_with fail
      rw [hW.out]
      have hC := HT.out _ hB.drew
      refine wp_region_noPanic ?_
      refine wp_region_held_drew (S := (fun w' => w'.cell? ⟨w.heap.size, 0, none⟩ = some (.int .i64 ps) ∧ w'.cell? ⟨w.heap.size, 1, none⟩ = some (.slice pA vs.length pc) ∧ w'.cell? ⟨w.heap.size, 2, none⟩ = some (.slice pB xs.length pe))) (by kernel_rfl) hC (fun hHeld => ?_)
      refine wpAnyH_take (i := 0) (oi := { dst := some 7, op := Op.load 25 (Operand.tmp 3), type := 25, pos := "ref.go:12", after := #[], guard := none }) (v := ?_) rfl (by kernel_rfl) (by kernel_rfl) (by kernel_rfl) (fun _ _ _ h => h) (Or.inl ⟨by rfl, ?_⟩) (by assumption) ?_
      rotate_left
      · (intro w hSw; (try dsimp only at hSw); go_simp; (try with_reducible rfl))
      try simp only [Act.put, List.setIfInBounds_toArray, List.set_cons_zero, List.set_cons_succ]
      refine wpAnyH_ready (rs := [1]) (by kernel_rfl) (by simp) ?_
      refine AllReadyH.cons (o := { dst := some 8, op := Op.call { callee := Callee.value (Operand.func 35), args := #[Operand.tmp 7], argTypes := #[25] }, type := 33, pos := "ref.go:12", after := #[{ on := 0, ground := Ground.data }], guard := none }) rfl (fun K hK => ?_) AllReadyH.nil
      go_simp
      go_at_call 35
      refine (HV.out _ hB.drew).mono ?_
      rintro e w3 ⟨rfl, hb⟩
      have hB := hB.drew.trans (hb.mono hB.size)
      have hC := HT.out _ hB
      try go_wp2_with fail
      refine hK.out _ _ ?_ (fun hHeld => ?_)
      · exact hC
      clear hK K
      try simp only [Act.put, List.setIfInBounds_toArray, List.set_cons_zero, List.set_cons_succ]
      refine wpAnyH_take (i := 2) (oi := { dst := some 9, op := Op.binOp BinOp.neq 33 (Operand.tmp 8) (Operand.const (Value.int IntKind.i64 0)) 33, type := 4, pos := "ref.go:12", after := #[{ on := 1, ground := Ground.data }], guard := none }) (v := ?_) rfl (by kernel_rfl) (by kernel_rfl) (by kernel_rfl) (fun _ _ _ h => h) (Or.inl ⟨by rfl, ?_⟩) (by assumption) ?_
      rotate_left
      · (intro w hSw; (try dsimp only at hSw); go_simp; (try with_reducible rfl))
      try simp only [Act.put, List.setIfInBounds_toArray, List.set_cons_zero, List.set_cons_succ]
      refine wpAnyH_take (i := 3) (oi := { dst := some 10, op := Op.move (Operand.tmp 9), type := 4, pos := "ref.go:12", after := #[{ on := 2, ground := Ground.data }, { on := 1, ground := Ground.chain }], guard := none }) (v := ?_) rfl (by kernel_rfl) (by kernel_rfl) (by kernel_rfl) (fun _ _ _ h => h) (Or.inl ⟨by rfl, ?_⟩) (by assumption) ?_
      rotate_left
      · (intro w hSw; (try dsimp only at hSw); go_simp; (try with_reducible rfl))
      try simp only [Act.put, List.setIfInBounds_toArray, List.set_cons_zero, List.set_cons_succ]
      refine wpAnyH_take (i := 4) (oi := { dst := some 11, op := Op.fieldAddr 25 (Operand.tmp 3) 2, type := 0, pos := "ref.go:12", after := #[{ on := 3, ground := Ground.guard }], guard := some (3, false) }) (v := ?_) rfl (by kernel_rfl) (by kernel_rfl) (by kernel_rfl) (fun _ _ _ h => h) (Or.inl ⟨by rfl, ?_⟩) (by assumption) ?_
      rotate_left
      · (intro w hSw; (try dsimp only at hSw); go_simp; (try with_reducible rfl))
      try simp only [Act.put, List.setIfInBounds_toArray, List.set_cons_zero, List.set_cons_succ]
      refine wpAnyH_take (i := 5) (oi := { dst := some 12, op := Op.load 23 (Operand.tmp 11), type := 23, pos := "ref.go:12", after := #[{ on := 4, ground := Ground.data }, { on := 3, ground := Ground.guard }], guard := some (3, false) }) (v := ?_) rfl (by kernel_rfl) (by kernel_rfl) (by kernel_rfl) (fun _ _ _ h => h) (Or.inl ⟨by rfl, ?_⟩) (by assumption) ?_
      rotate_left
      · (intro w hSw; (try dsimp only at hSw); go_simp; (try with_reducible rfl))
      try simp only [Act.put, List.setIfInBounds_toArray, List.set_cons_zero, List.set_cons_succ]
      refine wpAnyH_take (i := 7) (oi := { dst := some 14, op := Op.fieldAddr 25 (Operand.tmp 3) 2, type := 0, pos := "ref.go:12", after := #[{ on := 3, ground := Ground.guard }], guard := some (3, false) }) (v := ?_) rfl (by kernel_rfl) (by kernel_rfl) (by kernel_rfl) (fun _ _ _ h => h) (Or.inl ⟨by rfl, ?_⟩) (by assumption) ?_
      rotate_left
      · (intro w hSw; (try dsimp only at hSw); go_simp; (try with_reducible rfl))
      try simp only [Act.put, List.setIfInBounds_toArray, List.set_cons_zero, List.set_cons_succ]
      refine wpAnyH_take (i := 8) (oi := { dst := some 15, op := Op.load 23 (Operand.tmp 14), type := 23, pos := "ref.go:12", after := #[{ on := 7, ground := Ground.data }, { on := 3, ground := Ground.guard }], guard := some (3, false) }) (v := ?_) rfl (by kernel_rfl) (by kernel_rfl) (by kernel_rfl) (fun _ _ _ h => h) (Or.inl ⟨by rfl, ?_⟩) (by assumption) ?_
      rotate_left
      · (intro w hSw; (try dsimp only at hSw); go_simp; (try with_reducible rfl))
      try simp only [Act.put, List.setIfInBounds_toArray, List.set_cons_zero, List.set_cons_succ]
      refine wpAnyH_take (i := 9) (oi := { dst := some 16, op := Op.call { callee := Callee.builtin Builtin.len, args := #[Operand.tmp 15], argTypes := #[23] }, type := 3, pos := "ref.go:12", after := #[{ on := 8, ground := Ground.data }, { on := 3, ground := Ground.guard }], guard := some (3, false) }) (v := ?_) rfl (by kernel_rfl) (by kernel_rfl) (by kernel_rfl) (fun _ _ _ h => h) (Or.inl ⟨by rfl, ?_⟩) (by assumption) ?_
      rotate_left
      · (intro w hSw; (try dsimp only at hSw); go_simp; (try with_reducible rfl))
      try simp only [Act.put, List.setIfInBounds_toArray, List.set_cons_zero, List.set_cons_succ]
      refine wpAnyH_ready (rs := [6]) (by kernel_rfl) (by simp) ?_
      refine AllReadyH.cons (o := { dst := some 13, op := Op.call { callee := Callee.value (Operand.func 36), args := #[Operand.tmp 12, Operand.const (Value.int IntKind.i64 0)], argTypes := #[23, 3] }, type := 3, pos := "ref.go:12", after := #[{ on := 5, ground := Ground.data }, { on := 3, ground := Ground.chain }, { on := 3, ground := Ground.guard }], guard := some (3, false) }) rfl (fun K hK => ?_) AllReadyH.nil
      go_simp
      go_at_call 36
      refine (HEn.out _ hB).mono ?_
      rintro e w4 ⟨rfl, hb4⟩
      have hB := hB.trans (hb4.mono hB.size)
      have hC := HT.out _ hB
      try go_wp2_with fail
      refine hK.out _ _ ?_ (fun hHeld => ?_)
      · exact hC
      clear hK K
      try simp only [Act.put, List.setIfInBounds_toArray, List.set_cons_zero, List.set_cons_succ]
      refine wpAnyH_take (i := 10) (oi := { dst := some 17, op := Op.binOp BinOp.neq 3 (Operand.tmp 13) (Operand.tmp 16) 3, type := 4, pos := "ref.go:12", after := #[{ on := 6, ground := Ground.data }, { on := 9, ground := Ground.data }, { on := 3, ground := Ground.guard }], guard := some (3, false) }) (v := ?_) rfl (by kernel_rfl) (by kernel_rfl) (by kernel_rfl) (fun _ _ _ h => h) (Or.inl ⟨by rfl, ?_⟩) (by assumption) ?_
      rotate_left
      · (intro w hSw; (try dsimp only at hSw); go_simp; (try with_reducible rfl))
      try simp only [Act.put, List.setIfInBounds_toArray, List.set_cons_zero, List.set_cons_succ]
      refine wpAnyH_take (i := 11) (oi := { dst := some 18, op := Op.pick (Operand.tmp 10) (Operand.const (Value.bool true)) (Operand.tmp 17), type := 4, pos := "ref.go:12", after := #[{ on := 3, ground := Ground.data }, { on := 10, ground := Ground.data }], guard := none }) (v := ?_) rfl (by kernel_rfl) (by kernel_rfl) (by kernel_rfl) (fun _ _ _ h => h) (Or.inl ⟨by rfl, ?_⟩) (by assumption) ?_
      rotate_left
      · (intro w hSw; (try dsimp only at hSw); go_simp; (try with_reducible rfl))
      try simp only [Act.put, List.setIfInBounds_toArray, List.set_cons_zero, List.set_cons_succ]
      refine wpAnyH_take (i := 12) (oi := { dst := some 19, op := Op.move (Operand.tmp 18), type := 4, pos := "ref.go:12", after := #[{ on := 11, ground := Ground.data }, { on := 6, ground := Ground.chain }], guard := none }) (v := ?_) rfl (by kernel_rfl) (by kernel_rfl) (by kernel_rfl) (fun _ _ _ h => h) (Or.inl ⟨by rfl, ?_⟩) (by assumption) ?_
      rotate_left
      · (intro w hSw; (try dsimp only at hSw); go_simp; (try with_reducible rfl))
      try simp only [Act.put, List.setIfInBounds_toArray, List.set_cons_zero, List.set_cons_succ]
      refine wpAnyH_take (i := 13) (oi := { dst := some 20, op := Op.fieldAddr 25 (Operand.tmp 3) 2, type := 0, pos := "ref.go:12", after := #[{ on := 12, ground := Ground.guard }], guard := some (12, false) }) (v := undef) rfl (by kernel_rfl) (by kernel_rfl) (by kernel_rfl) (fun _ _ _ h => h) (Or.inr ⟨by rfl, rfl⟩) (by assumption) ?_
      try simp only [Act.put, List.setIfInBounds_toArray, List.set_cons_zero, List.set_cons_succ]
      refine wpAnyH_take (i := 14) (oi := { dst := some 21, op := Op.load 23 (Operand.tmp 20), type := 23, pos := "ref.go:12", after := #[{ on := 13, ground := Ground.data }, { on := 12, ground := Ground.guard }], guard := some (12, false) }) (v := undef) rfl (by kernel_rfl) (by kernel_rfl) (by kernel_rfl) (fun _ _ _ h => h) (Or.inr ⟨by rfl, rfl⟩) (by assumption) ?_
      try simp only [Act.put, List.setIfInBounds_toArray, List.set_cons_zero, List.set_cons_succ]
      refine wpAnyH_take (i := 15) (oi := { dst := some 22, op := Op.call { callee := Callee.builtin Builtin.len, args := #[Operand.tmp 21], argTypes := #[23] }, type := 3, pos := "ref.go:12", after := #[{ on := 14, ground := Ground.data }, { on := 12, ground := Ground.guard }], guard := some (12, false) }) (v := undef) rfl (by kernel_rfl) (by kernel_rfl) (by kernel_rfl) (fun _ _ _ h => h) (Or.inr ⟨by rfl, rfl⟩) (by assumption) ?_
      try simp only [Act.put, List.setIfInBounds_toArray, List.set_cons_zero, List.set_cons_succ]
      refine wpAnyH_take (i := 16) (oi := { dst := some 23, op := Op.binOp BinOp.eql 3 (Operand.tmp 22) (Operand.const (Value.int IntKind.i64 0)) 3, type := 4, pos := "ref.go:12", after := #[{ on := 15, ground := Ground.data }, { on := 12, ground := Ground.guard }], guard := some (12, false) }) (v := undef) rfl (by kernel_rfl) (by kernel_rfl) (by kernel_rfl) (fun _ _ _ h => h) (Or.inr ⟨by rfl, rfl⟩) (by assumption) ?_
      try simp only [Act.put, List.setIfInBounds_toArray, List.set_cons_zero, List.set_cons_succ]
      refine wpAnyH_take (i := 17) (oi := { dst := some 24, op := Op.pick (Operand.tmp 19) (Operand.const (Value.bool true)) (Operand.tmp 23), type := 4, pos := "ref.go:12", after := #[{ on := 12, ground := Ground.data }, { on := 16, ground := Ground.data }], guard := none }) (v := ?_) rfl (by kernel_rfl) (by kernel_rfl) (by kernel_rfl) (fun _ _ _ h => h) (Or.inl ⟨by rfl, ?_⟩) (by assumption) ?_
      rotate_left
      · (intro w hSw; (try dsimp only at hSw); go_simp; (try with_reducible rfl))
      try simp only [Act.put, List.setIfInBounds_toArray, List.set_cons_zero, List.set_cons_succ]
      refine wpAnyH_done (by kernel_rfl) ?_ _
      refine NoPanic.normal ?_

      obtain ⟨c0, c1, c2⟩ := hC
      go_wp2_with fail
      go_ret
      exact ⟨by rw [HE.out]; rfl, HB.out.trans (hB.mono HB.out.size)⟩
  · have HE := Lib.hid (show E = 23 by rw [HM.out]; exact if_pos (.inl h0))
    have e3 : (a0 != 0) = true := by simpa using h0
    clear HM
    go_enter Try.func21, Try.ntmps21
    go_wp2_with fail
    rw [hW.out]
    have hC := HT.out _ hB.drew
    refine wp_region_noPanic ?_
    refine wp_region_held_drew (S := (fun w' => w'.cell? ⟨w.heap.size, 0, none⟩ = some (.int .i64 ps) ∧ w'.cell? ⟨w.heap.size, 1, none⟩ = some (.slice pA vs.length pc) ∧ w'.cell? ⟨w.heap.size, 2, none⟩ = some (.slice pB xs.length pe))) (by kernel_rfl) hC (fun hHeld => ?_)
    refine wpAnyH_take (i := 0) (oi := { dst := some 7, op := Op.load 25 (Operand.tmp 3), type := 25, pos := "ref.go:12", after := #[], guard := none }) (v := ?_) rfl (by kernel_rfl) (by kernel_rfl) (by kernel_rfl) (fun _ _ _ h => h) (Or.inl ⟨by rfl, ?_⟩) (by assumption) ?_
    rotate_left
    · (intro w hSw; (try dsimp only at hSw); go_simp; (try with_reducible rfl))
    try simp only [Act.put, List.setIfInBounds_toArray, List.set_cons_zero, List.set_cons_succ]
    refine wpAnyH_ready (rs := [1]) (by kernel_rfl) (by simp) ?_
    refine AllReadyH.cons (o := { dst := some 8, op := Op.call { callee := Callee.value (Operand.func 35), args := #[Operand.tmp 7], argTypes := #[25] }, type := 33, pos := "ref.go:12", after := #[{ on := 0, ground := Ground.data }], guard := none }) rfl (fun K hK => ?_) AllReadyH.nil
    go_simp
    go_at_call 35
    refine (HV.out _ hB.drew).mono ?_
    rintro e w3 ⟨rfl, hb⟩
    have hB := hB.drew.trans (hb.mono hB.size)
    have hC := HT.out _ hB
    try go_wp2_with fail
    refine hK.out _ _ ?_ (fun hHeld => ?_)
    · exact hC
    clear hK K
    try simp only [Act.put, List.setIfInBounds_toArray, List.set_cons_zero, List.set_cons_succ]
    refine wpAnyH_take (i := 2) (oi := { dst := some 9, op := Op.binOp BinOp.neq 33 (Operand.tmp 8) (Operand.const (Value.int IntKind.i64 0)) 33, type := 4, pos := "ref.go:12", after := #[{ on := 1, ground := Ground.data }], guard := none }) (v := ?_) rfl (by kernel_rfl) (by kernel_rfl) (by kernel_rfl) (fun _ _ _ h => h) (Or.inl ⟨by rfl, ?_⟩) (by assumption) ?_
    rotate_left
    · (intro w hSw; (try dsimp only at hSw); go_simp; (try with_reducible rfl))
    try simp only [Act.put, List.setIfInBounds_toArray, List.set_cons_zero, List.set_cons_succ]
    refine wpAnyH_take (i := 3) (oi := { dst := some 10, op := Op.move (Operand.tmp 9), type := 4, pos := "ref.go:12", after := #[{ on := 2, ground := Ground.data }, { on := 1, ground := Ground.chain }], guard := none }) (v := ?_) rfl (by kernel_rfl) (by kernel_rfl) (by kernel_rfl) (fun _ _ _ h => h) (Or.inl ⟨by rfl, ?_⟩) (by assumption) ?_
    rotate_left
    · (intro w hSw; (try dsimp only at hSw); go_simp; (try with_reducible rfl))
    try simp only [Act.put, List.setIfInBounds_toArray, List.set_cons_zero, List.set_cons_succ]
    refine wpAnyH_take (i := 4) (oi := { dst := some 11, op := Op.fieldAddr 25 (Operand.tmp 3) 2, type := 0, pos := "ref.go:12", after := #[{ on := 3, ground := Ground.guard }], guard := some (3, false) }) (v := undef) rfl (by kernel_rfl) (by kernel_rfl) (by kernel_rfl) (fun _ _ _ h => h) (Or.inr ⟨by rfl, rfl⟩) (by assumption) ?_
    try simp only [Act.put, List.setIfInBounds_toArray, List.set_cons_zero, List.set_cons_succ]
    refine wpAnyH_take (i := 5) (oi := { dst := some 12, op := Op.load 23 (Operand.tmp 11), type := 23, pos := "ref.go:12", after := #[{ on := 4, ground := Ground.data }, { on := 3, ground := Ground.guard }], guard := some (3, false) }) (v := undef) rfl (by kernel_rfl) (by kernel_rfl) (by kernel_rfl) (fun _ _ _ h => h) (Or.inr ⟨by rfl, rfl⟩) (by assumption) ?_
    try simp only [Act.put, List.setIfInBounds_toArray, List.set_cons_zero, List.set_cons_succ]
    refine wpAnyH_take (i := 6) (oi := { dst := some 13, op := Op.call { callee := Callee.value (Operand.func 36), args := #[Operand.tmp 12, Operand.const (Value.int IntKind.i64 0)], argTypes := #[23, 3] }, type := 3, pos := "ref.go:12", after := #[{ on := 5, ground := Ground.data }, { on := 3, ground := Ground.chain }, { on := 3, ground := Ground.guard }], guard := some (3, false) }) (v := undef) rfl (by kernel_rfl) (by kernel_rfl) (by kernel_rfl) (fun _ _ _ h => h) (Or.inr ⟨by rfl, rfl⟩) (by assumption) ?_
    try simp only [Act.put, List.setIfInBounds_toArray, List.set_cons_zero, List.set_cons_succ]
    refine wpAnyH_take (i := 7) (oi := { dst := some 14, op := Op.fieldAddr 25 (Operand.tmp 3) 2, type := 0, pos := "ref.go:12", after := #[{ on := 3, ground := Ground.guard }], guard := some (3, false) }) (v := undef) rfl (by kernel_rfl) (by kernel_rfl) (by kernel_rfl) (fun _ _ _ h => h) (Or.inr ⟨by rfl, rfl⟩) (by assumption) ?_
    try simp only [Act.put, List.setIfInBounds_toArray, List.set_cons_zero, List.set_cons_succ]
    refine wpAnyH_take (i := 8) (oi := { dst := some 15, op := Op.load 23 (Operand.tmp 14), type := 23, pos := "ref.go:12", after := #[{ on := 7, ground := Ground.data }, { on := 3, ground := Ground.guard }], guard := some (3, false) }) (v := undef) rfl (by kernel_rfl) (by kernel_rfl) (by kernel_rfl) (fun _ _ _ h => h) (Or.inr ⟨by rfl, rfl⟩) (by assumption) ?_
    try simp only [Act.put, List.setIfInBounds_toArray, List.set_cons_zero, List.set_cons_succ]
    refine wpAnyH_take (i := 9) (oi := { dst := some 16, op := Op.call { callee := Callee.builtin Builtin.len, args := #[Operand.tmp 15], argTypes := #[23] }, type := 3, pos := "ref.go:12", after := #[{ on := 8, ground := Ground.data }, { on := 3, ground := Ground.guard }], guard := some (3, false) }) (v := undef) rfl (by kernel_rfl) (by kernel_rfl) (by kernel_rfl) (fun _ _ _ h => h) (Or.inr ⟨by rfl, rfl⟩) (by assumption) ?_
    try simp only [Act.put, List.setIfInBounds_toArray, List.set_cons_zero, List.set_cons_succ]
    refine wpAnyH_take (i := 10) (oi := { dst := some 17, op := Op.binOp BinOp.neq 3 (Operand.tmp 13) (Operand.tmp 16) 3, type := 4, pos := "ref.go:12", after := #[{ on := 6, ground := Ground.data }, { on := 9, ground := Ground.data }, { on := 3, ground := Ground.guard }], guard := some (3, false) }) (v := undef) rfl (by kernel_rfl) (by kernel_rfl) (by kernel_rfl) (fun _ _ _ h => h) (Or.inr ⟨by rfl, rfl⟩) (by assumption) ?_
    try simp only [Act.put, List.setIfInBounds_toArray, List.set_cons_zero, List.set_cons_succ]
    refine wpAnyH_take (i := 11) (oi := { dst := some 18, op := Op.pick (Operand.tmp 10) (Operand.const (Value.bool true)) (Operand.tmp 17), type := 4, pos := "ref.go:12", after := #[{ on := 3, ground := Ground.data }, { on := 10, ground := Ground.data }], guard := none }) (v := ?_) rfl (by kernel_rfl) (by kernel_rfl) (by kernel_rfl) (fun _ _ _ h => h) (Or.inl ⟨by rfl, ?_⟩) (by assumption) ?_
    rotate_left
    · (intro w hSw; (try dsimp only at hSw); go_simp; (try with_reducible rfl))
    try simp only [Act.put, List.setIfInBounds_toArray, List.set_cons_zero, List.set_cons_succ]
    refine wpAnyH_take (i := 12) (oi := { dst := some 19, op := Op.move (Operand.tmp 18), type := 4, pos := "ref.go:12", after := #[{ on := 11, ground := Ground.data }, { on := 6, ground := Ground.chain }], guard := none }) (v := ?_) rfl (by kernel_rfl) (by kernel_rfl) (by kernel_rfl) (fun _ _ _ h => h) (Or.inl ⟨by rfl, ?_⟩) (by assumption) ?_
    rotate_left
    · (intro w hSw; (try dsimp only at hSw); go_simp; (try with_reducible rfl))
    try simp only [Act.put, List.setIfInBounds_toArray, List.set_cons_zero, List.set_cons_succ]
    refine wpAnyH_take (i := 13) (oi := { dst := some 20, op := Op.fieldAddr 25 (Operand.tmp 3) 2, type := 0, pos := "ref.go:12", after := #[{ on := 12, ground := Ground.guard }], guard := some (12, false) }) (v := undef) rfl (by kernel_rfl) (by kernel_rfl) (by kernel_rfl) (fun _ _ _ h => h) (Or.inr ⟨by rfl, rfl⟩) (by assumption) ?_
    try simp only [Act.put, List.setIfInBounds_toArray, List.set_cons_zero, List.set_cons_succ]
    refine wpAnyH_take (i := 14) (oi := { dst := some 21, op := Op.load 23 (Operand.tmp 20), type := 23, pos := "ref.go:12", after := #[{ on := 13, ground := Ground.data }, { on := 12, ground := Ground.guard }], guard := some (12, false) }) (v := undef) rfl (by kernel_rfl) (by kernel_rfl) (by kernel_rfl) (fun _ _ _ h => h) (Or.inr ⟨by rfl, rfl⟩) (by assumption) ?_
    try simp only [Act.put, List.setIfInBounds_toArray, List.set_cons_zero, List.set_cons_succ]
    refine wpAnyH_take (i := 15) (oi := { dst := some 22, op := Op.call { callee := Callee.builtin Builtin.len, args := #[Operand.tmp 21], argTypes := #[23] }, type := 3, pos := "ref.go:12", after := #[{ on := 14, ground := Ground.data }, { on := 12, ground := Ground.guard }], guard := some (12, false) }) (v := undef) rfl (by kernel_rfl) (by kernel_rfl) (by kernel_rfl) (fun _ _ _ h => h) (Or.inr ⟨by rfl, rfl⟩) (by assumption) ?_
    try simp only [Act.put, List.setIfInBounds_toArray, List.set_cons_zero, List.set_cons_succ]
    refine wpAnyH_take (i := 16) (oi := { dst := some 23, op := Op.binOp BinOp.eql 3 (Operand.tmp 22) (Operand.const (Value.int IntKind.i64 0)) 3, type := 4, pos := "ref.go:12", after := #[{ on := 15, ground := Ground.data }, { on := 12, ground := Ground.guard }], guard := some (12, false) }) (v := undef) rfl (by kernel_rfl) (by kernel_rfl) (by kernel_rfl) (fun _ _ _ h => h) (Or.inr ⟨by rfl, rfl⟩) (by assumption) ?_
    try simp only [Act.put, List.setIfInBounds_toArray, List.set_cons_zero, List.set_cons_succ]
    refine wpAnyH_take (i := 17) (oi := { dst := some 24, op := Op.pick (Operand.tmp 19) (Operand.const (Value.bool true)) (Operand.tmp 23), type := 4, pos := "ref.go:12", after := #[{ on := 12, ground := Ground.data }, { on := 16, ground := Ground.data }], guard := none }) (v := ?_) rfl (by kernel_rfl) (by kernel_rfl) (by kernel_rfl) (fun _ _ _ h => h) (Or.inl ⟨by rfl, ?_⟩) (by assumption) ?_
    rotate_left
    · (intro w hSw; (try dsimp only at hSw); go_simp; (try with_reducible rfl))
    try simp only [Act.put, List.setIfInBounds_toArray, List.set_cons_zero, List.set_cons_succ]
    refine wpAnyH_done (by kernel_rfl) ?_ _
    refine NoPanic.normal ?_

    obtain ⟨c0, c1, c2⟩ := hC
    go_wp2_with fail
    go_ret
    exact ⟨by rw [HE.out]; rfl, HB.out.trans (hB.mono HB.out.size)⟩
end Go.Proofs.Ytodejloonfkkmaa.Mach
