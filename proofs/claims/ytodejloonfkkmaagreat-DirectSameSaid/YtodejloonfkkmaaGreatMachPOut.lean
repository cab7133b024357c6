/-
  Package machine, walked: a run, turn by turn, till it is over.
-/
import Derived.Test.YtodejloonfkkmaaGreatMachPAny
set_option linter.unusedVariables false
set_option linter.unusedSimpArgs false
namespace Go.Proofs.YtodejloonfkkmaaGreat.Mach
open Go.RowKit Mem _root_.Go.Proofs.YtodejloonfkkmaaGreat.Arena _root_.Go.Proofs.YtodejloonfkkmaaGreat.Kinds _root_.Go.Proofs.YtodejloonfkkmaaGreat.Path _root_.Go.Proofs.YtodejloonfkkmaaGreat.Cat _root_.Go.Proofs.YtodejloonfkkmaaGreat.Suite
attribute [local go_sem ↓] Go.wp_at_zero Go.wp_at_succ

/-- A least number of which something holds, if it holds of any. -/
theorem least_ex (P : Nat → Prop) : ∃ m, ∀ n, P n → P m ∧ m ≤ n := by
  by_cases h : ∃ n, P n
  · obtain ⟨n, hn⟩ := h
    induction n using Nat.strongRecOn with
    | _ n ih =>
      by_cases hk : ∃ k, k < n ∧ P k
      · obtain ⟨k, hkn, hk⟩ := hk
        exact ih k hkn hk
      · exact ⟨n, fun k hk' => ⟨hn, Nat.le_of_not_lt fun z => hk ⟨k, z, hk'⟩⟩⟩
  · exact ⟨0, fun n hn => absurd ⟨n, hn⟩ h⟩
/-- No node on the stack is owed more than 200 kids. -/
def Low (S : List Fr) : Prop := ∀ f ∈ S, f.owed ≤ 200
theorem low_enter {l : List Nd} {k : Nat} {c : Cfg} (h : Low c.2) : Low (enterC l k c).2 := by
  unfold enterC
  split
  · exact h
  · intro f hf
    rcases List.mem_cons.1 hf with rfl | hf
    · show owedN (l.getD k (0, 0)) ≤ 200
      unfold owedN
      have := (ar_le (l.getD k (0, 0))).2
      split <;> omega
    · exact h f hf
theorem low_tell {v : Int} {c : Cfg} (h : Low c.2) : Low (tellC v c).2 := by
  obtain ⟨s, S⟩ := c
  cases S with
  | nil => exact h
  | cons f S =>
    intro g hg
    rcases List.mem_cons.1 hg with rfl | hg
    · exact h f (List.mem_cons_self ..)
    · exact h g (List.mem_cons_of_mem _ hg)
theorem low_step {l : List Nd} {c : Cfg} (h : Low c.2) : Low (stepC l c).2 := by
  obtain ⟨s, S⟩ := c
  cases S with
  | nil => exact h
  | cons f S =>
    have hS : Low S := fun g hg => h g (List.mem_cons_of_mem _ hg)
    unfold stepC
    simp only
    split
    · unfold doC
      repeat' split
      all_goals first
        | exact low_enter (c := (s, S)) hS
        | exact low_tell (c := (s, S)) hS
        | (intro g hg
           rcases List.mem_cons.1 hg with rfl | hg
           · show 1 ≤ 200; omega
           · exact hS g hg)
        | (unfold semC
           split
           · exact hS
           · exact low_tell (c := (_, S)) hS)
    · refine low_enter (c := (s, _ :: S)) fun g hg => ?_
      rcases List.mem_cons.1 hg with rfl | hg
      · show f.owed - 1 ≤ 200
        have := h f (List.mem_cons_self ..)
        omega
      · exact hS g hg
theorem nil_nil (w : World) : (binOp .neq 81 .nilFunc .nilFunc).run Tryz.prog w = .ok (.bool false) w := by kernel_rfl
theorem stop_nil (k : Int) (w : World) : (binOp .neq 81 (.func (.func 35) #[.int .i64 k] #[]) .nilFunc).run Tryz.prog w = .ok (.bool true) w := by kernel_rfl
theorem result_nil (k : Int) (w : World) : (binOp .neq 81 (.func (.func 116) #[.int .i64 k] #[]) .nilFunc).run Tryz.prog w = .ok (.bool true) w := by kernel_rfl
section
variable {K : PK} {κ : Nat → Nat} {evv sv : Value} {Y : List ((Option Addr × Nat) × List Int)} {s : St} {S : List Fr} {W W' : World}
/-- A cell of a block that is none of its. -/
theorem PM.far (h : PM K κ evv sv Y s S W) {b : Nat} (hb : κ b = 0) (hB : K.base ≤ b) (i : Nat) (v : Value) : PM K κ evv sv Y s S (W.setCell ⟨b, i, none⟩ v) :=
  h.move (by simp) fun k q1 q2 => Below.heap_setCell _ _ _ _ fun z => by
    obtain rfl : k = b := by first | exact z | exact z.symm
    omega
/-- A run on its way: so many turns are left. -/
def Way (K : PK) (κ : Nat → Nat) (W : World) (cE : Cfg) (n : Nat) (v : Value) (wr : World) : Prop :=
  ∃ κ' evv' sv' Y' c, PM K κ' evv' sv' Y' c.1 c.2 wr ∧ Went κ κ' W wr ∧ Ender c.1 v ∧ Reach K.p.xs n c cE ∧ Sized K.F c ∧ Low c.2
/-- What a run comes to. -/
def OutEnds (K : PK) (κ : Nat → Nat) (W : World) (sE : St) (e : Ending) (W' : World) : Prop :=
  e = .returned (.agg #[.int .i64 sE.kind, .int .i64 sE.value]) ∧ ∃ κ' evv' sv' Y' S', PM K κ' evv' sv' Y' sE S' W' ∧ Went κ κ' W W'
set_option maxRecDepth 100000 in
set_option maxHeartbeats 4000000 in
theorem outcome_any (h : PM K κ evv sv Y s [] W) (hL : Live K s []) (hk : IsNode K.p.xs 0) {n : Nat} {cE : Cfg} (hR : Reach K.p.xs n (enterC K.p.xs 0 (s, [])) cE) (hE : cE.1.over = true) : Calls Tryz.prog 18 #[.pointer (some ⟨K.g, 0, none⟩)] W (OutEnds K κ W cE.1) := by
  have hb1 := (Below.refl W.heap.size W).alloc (Nat.le_refl _) (.cells #[.int .i64 0, .int .i64 0] 29)
  have bX := Blk.new W 29 #[.int .i64 0, .int .i64 0]
  have h1 := h.below hb1
  have HEN := Lib.hid (show Calls Tryz.prog 34 #[.pointer (some ⟨K.g, 0, none⟩), .int .i64 0] _ (Turn K κ _ (enterC K.p.xs 0 (s, []))) from enter_any16 h1 hL hk)
  have hκ : κ W.heap.size = 0 := by
    by_cases z : κ W.heap.size = 0
    · exact z
    · have := (h.lab.lt _ z).2; omega
  have HX := Lib.hid (fun (κ' : Nat → Nat) W2 (q : Went κ κ' (W.alloc (.cells #[.int .i64 0, .int .i64 0] 29)) W2) => show Blk W2 W.heap.size 29 #[.int .i64 0, .int .i64 0] from bX.kept q.kept (fun z => z hκ))
  have HW1 := Lib.hid ((Went.refl κ W).below hb1)
  have HKW := Lib.hid (And.intro hκ (And.intro h.cn.size (show W.heap.size < (W.alloc (.cells #[.int .i64 0, .int .i64 0] 29)).heap.size by simp)))
  have hz0 : Sized K.F (s, ([] : List Fr)) := ⟨hL.few, hL.sum⟩
  have hsz := sized_enter (l := K.p.xs) hz0 0
  have hlow : Low (enterC K.p.xs 0 (s, ([] : List Fr))).2 := low_enter (c := (s, [])) fun f hf => by cases hf
  have HTOP := Lib.hid hL.top
  obtain ⟨W1, hW1⟩ : ∃ W1, W.alloc (.cells #[.int .i64 0, .int .i64 0] 29) = W1 := ⟨_, rfl⟩
  rw [hW1] at HEN HX HW1 HKW
  obtain ⟨mu, hmu⟩ : ∃ mu : Value → World → Nat, ∀ v wr n, Way K κ W1 cE n v wr → Way K κ W1 cE (mu v wr) v wr ∧ mu v wr ≤ n :=
    ⟨fun v wr => Classical.choose (least_ex fun n => Way K κ W1 cE n v wr), fun v wr => Classical.choose_spec (least_ex fun n => Way K κ W1 cE n v wr)⟩
  have HMU := Lib.hid hmu
  have HS := Lib.hid (And.intro hR (And.intro hsz (And.intro hlow hE)))
  clear h h1 hb1 bX hκ hz0 hsz hlow hR hE hmu hL hk
  have hn1 := nil_nil
  have hn2 := stop_nil
  have hn3 := result_nil
  go_enter Tryz.func18, Tryz.ntmps18
  go_wp2_with fail
  go_step3
  go_wp2_with (first | (go_at_call 34; (with_reducible refine HEN.out.mono ?_); rintro e w2 ⟨κ2, evv2, sv2, Y2, v, q1, q2, rfl, q3⟩; have HV := Lib.hid (show Way K κ W1 cE n v w2 from ⟨κ2, evv2, sv2, Y2, _, q1, q2, q3, HS.out.1, HS.out.2.1, HS.out.2.2.1⟩); clear q1 q2 q3) | fail)
  go_step3
  go_wp2_with fail
  go_loopw [3] (fun v wr => ∃ n, Way K κ W1 cE n v wr) (fun v wr => mu v wr)
  case atStart => exact ⟨n, HV.out⟩
  case round =>
    obtain ⟨n0, hw0⟩ := hrel
    obtain ⟨hw1, -⟩ := HMU.out _ _ _ hw0
    obtain ⟨N, hN⟩ : ∃ N, mu u3 wr = N := ⟨_, rfl⟩
    rw [hN] at hw1
    have HNN := Lib.hid hN
    clear hw0 hN
    obtain ⟨κ', evv', sv', Y', ⟨s', S'⟩, hP, hwt, hEn, hRe, hSz, hLo⟩ := hw1
    rcases hEn with ⟨ho, hv⟩ | ⟨ho, hv⟩
    · subst hv
      simp only at ho
      cases N with
      | zero =>
        have e : (s', S') = cE := hRe
        have := HS.out.2.2.2
        rw [← e, ho] at this
        cases this
      | succ N =>
        obtain ⟨⟨-, hsafe⟩, hRe⟩ := hRe
        have hSz2 := sized_step (l := K.p.xs) hSz
        have hLo2 := low_step (l := K.p.xs) hLo
        cases S' with
        | nil =>
          obtain ⟨A, c, rfl⟩ := hP.bare
          have c10 : wr.cell? ⟨K.g, 10, none⟩ = some (.slice A 0 c) := hP.cell 10
          have HR := Lib.hid (show Way K κ W1 cE N (.func (.func 35) #[.int .i64 3] #[]) wr from
            ⟨κ', evv', _, Y', (s'.stop 3 0, []), hP.stop 3 0, hwt, .inr ⟨stop_over _ _ _, .inl ⟨by show (s'.stop 3 0).value = 0; rw [stop_no ho], by show _ = Value.func _ #[.int .i64 (s'.stop 3 0).kind] #[]; rw [stop_no ho]⟩⟩, hRe, hSz2, hLo2⟩)
          clear hP hwt hRe hSz hLo hSz2 hLo2 hsafe ho
          go_wp2_with fail
          go_roundw
          case rel => exact ⟨N, HR.out⟩
          case measure =>
            have := (HMU.out _ _ _ HR.out).2
            have := HNN.out
            omega
        | cons f S =>
          obtain ⟨b, cap, rfl, -⟩ := hP.top
          have c10 : wr.cell? ⟨K.g, 10, none⟩ = some (.slice (some ⟨b, 0, none⟩) (S.length + 1) cap) := hP.cell 10
          have e0 : ((S.length : Int) + 1 == 0) = false := by simp; omega
          have HT := Lib.hid (turn_any hP ⟨ho, hSz.sum, HTOP.out, hSz.few⟩ hsafe (hLo f (List.mem_cons_self ..)))
          have HW := Lib.hid hwt
          have HRE := Lib.hid (And.intro hRe (And.intro hSz2 hLo2))
          clear hP hwt hRe hSz hLo hSz2 hLo2 hsafe ho
          go_wp2_with (first | (go_at_call 36; (with_reducible refine HT.out.mono ?_); rintro e w2 ⟨κ2, evv2, sv2, Y2, v, q1, q2, rfl, q3⟩; have HV2 := Lib.hid (show Way K κ W1 cE N v w2 from ⟨κ2, evv2, sv2, Y2, _, q1, HW.out.trans q2, q3, HRE.out.1, HRE.out.2.1, HRE.out.2.2⟩); clear q1 q2 q3) | fail)
          go_roundw
          case rel => exact ⟨N, HV2.out⟩
          case measure =>
            have := (HMU.out _ _ _ HV2.out).2
            have := HNN.out
            omega
    · have hN0 : N = 0 := by
        cases N with
        | zero => rfl
        | succ N =>
          have := hRe.1.1
          simp only at ho
          rw [ho] at this
          cases this
      subst hN0
      have e : (s', S') = cE := hRe
      subst e
      have hk2 : κ' W.heap.size = 0 := by
        by_cases z : κ' W.heap.size = 0
        · exact z
        · have := hwt.new _ z
          have := HKW.out
          omega
      have HP := Lib.hid hP
      have HW := Lib.hid (HW1.out.trans hwt)
      have HBX := Lib.hid (HX.out _ _ hwt)
      clear hP hwt hRe hSz hLo ho HV HMU HNN
      simp only at hv
      unfold OutEnds
      simp only
      rcases hv with ⟨h0, hv⟩ | ⟨h0, hv⟩
      · subst hv
        have HST := Lib.hid stop_any
        have HH := Lib.hid h0
        clear h0
        go_wp2_with (first | (go_at_call 35; (with_reducible refine (HST.out _ _).mono ?_); rintro e w3 ⟨rfl, hb3⟩; have hbX := HBX.out.below hb3 HBX.out.lt; obtain ⟨z0, z1⟩ := hbX.two; have zf0 := hbX.frozen 0; have zf1 := hbX.frozen 1) | fail)
        rw [Exit.noGoto_ret]
        have s0 : (w3.setCell ⟨W.heap.size, 0, none⟩ (.int .i64 s'.kind)).cell? ⟨W.heap.size, 0, none⟩ = some (.int .i64 s'.kind) := (hbX.set 0 _).cell 0
        have s1 : ((w3.setCell ⟨W.heap.size, 0, none⟩ (.int .i64 s'.kind)).setCell ⟨W.heap.size, 1, none⟩ (.int .i64 0)).cell? ⟨W.heap.size, 0, none⟩ = some (.int .i64 s'.kind) := ((hbX.set 0 _).set 1 _).cell 0
        have s2 : ((w3.setCell ⟨W.heap.size, 0, none⟩ (.int .i64 s'.kind)).setCell ⟨W.heap.size, 1, none⟩ (.int .i64 0)).cell? ⟨W.heap.size, 1, none⟩ = some (.int .i64 0) := ((hbX.set 0 _).set 1 _).cell 1
        refine bodyPost_ret (v := .agg #[.int .i64 s'.kind, .int .i64 0]) (by simp [results, Tryz.results18, go_sem, s0, s1, s2]) rfl ?_
        have hP2 := ((HP.out.below hb3).far (b := W.heap.size) hk2 HKW.out.2.1 0 (.int .i64 s'.kind)).far (b := W.heap.size) hk2 HKW.out.2.1 1 (.int .i64 0)
        have hw2 := ((HW.out.below hb3).setCell (a := ⟨W.heap.size, 0, none⟩) (.inr (Nat.le_refl _)) (.int .i64 s'.kind)).setCell (a := ⟨W.heap.size, 1, none⟩) (.inr (Nat.le_refl _)) (.int .i64 0)
        exact ⟨by rw [HH.out], κ', evv', sv', Y', S', hP2, hw2⟩
      · subst hv
        have HST := Lib.hid result_any
        have HH := Lib.hid h0
        clear h0
        go_wp2_with (first | (go_at_call 116; (with_reducible refine (HST.out _ _).mono ?_); rintro e w3 ⟨rfl, hb3⟩; have hbX := HBX.out.below hb3 HBX.out.lt; obtain ⟨z0, z1⟩ := hbX.two; have zf0 := hbX.frozen 0; have zf1 := hbX.frozen 1) | fail)
        rw [Exit.noGoto_ret]
        have s0 : (w3.setCell ⟨W.heap.size, 0, none⟩ (.int .i64 0)).cell? ⟨W.heap.size, 0, none⟩ = some (.int .i64 0) := (hbX.set 0 _).cell 0
        have s1 : ((w3.setCell ⟨W.heap.size, 0, none⟩ (.int .i64 0)).setCell ⟨W.heap.size, 1, none⟩ (.int .i64 s'.value)).cell? ⟨W.heap.size, 0, none⟩ = some (.int .i64 0) := ((hbX.set 0 _).set 1 _).cell 0
        have s2 : ((w3.setCell ⟨W.heap.size, 0, none⟩ (.int .i64 0)).setCell ⟨W.heap.size, 1, none⟩ (.int .i64 s'.value)).cell? ⟨W.heap.size, 1, none⟩ = some (.int .i64 s'.value) := ((hbX.set 0 _).set 1 _).cell 1
        refine bodyPost_ret (v := .agg #[.int .i64 0, .int .i64 s'.value]) (by simp [results, Tryz.results18, go_sem, s0, s1, s2]) rfl ?_
        have hP2 := ((HP.out.below hb3).far (b := W.heap.size) hk2 HKW.out.2.1 0 (.int .i64 0)).far (b := W.heap.size) hk2 HKW.out.2.1 1 (.int .i64 s'.value)
        have hw2 := ((HW.out.below hb3).setCell (a := ⟨W.heap.size, 0, none⟩) (.inr (Nat.le_refl _)) (.int .i64 0)).setCell (a := ⟨W.heap.size, 1, none⟩) (.inr (Nat.le_refl _)) (.int .i64 s'.value)
        exact ⟨by rw [HH.out], κ', evv', sv', Y', S', hP2, hw2⟩
end
end Go.Proofs.YtodejloonfkkmaaGreat.Mach
