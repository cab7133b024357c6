/-
  The reference of kinds, walked: a program, two programs.
-/
import Derived.Test.YteknfglfbkknaaaKindsRefC
namespace Go.Proofs.Yteknfglfbkknaaa.Kinds
open Go.RowKit Mem _root_.Go.Proofs.Yteknfglfbkknaaa.Arena
set_option linter.unusedVariables false

set_option maxRecDepth 100000 in
set_option maxHeartbeats 2000000 in
theorem ref_Check_any (p : Prg) (w : World) (hp : p.Ok w) :
    Calls Try.prog 13 #[.agg #[.int .i64 p.ps, .slice p.A p.vs.length p.c, .slice p.B p.xs.length p.e]] w fun e w' => e = .returned (.int .i64 (pcheck p.ps p.vs p.xs)) ∧ Below w.heap.size w w' := by
  have hB0 : Below w.heap.size w (w.alloc (.cells #[.int .i64 p.ps, .slice p.A p.vs.length p.c, .slice p.B p.xs.length p.e] 25)) := (Below.refl _ _).alloc (Nat.le_refl _) _
  have bX := Blk.new w 25 #[.int .i64 p.ps, .slice p.A p.vs.length p.c, .slice p.B p.xs.length p.e]
  have hgl : w.heap.size < (w.alloc (.cells #[.int .i64 p.ps, .slice p.A p.vs.length p.c, .slice p.B p.xs.length p.e] 25)).heap.size := bX.lt
  have HBX := Lib.hid (fun W (h : Below (w.alloc (.cells #[.int .i64 p.ps, .slice p.A p.vs.length p.c, .slice p.B p.xs.length p.e] 25)).heap.size (w.alloc (.cells #[.int .i64 p.ps, .slice p.A p.vs.length p.c, .slice p.B p.xs.length p.e] 25)) W) => (bX.below h hgl).three)
  have HX := Lib.hid (hp.at hB0)
  have hlx := hp.lx
  have HC := Lib.hid (fun W (hW : p.Ok W) => Arena.ref_Check_any p.B p.e p.xs W hW.body hlx)
  have HV := Lib.hid (fun W (hW : p.Ok W) => ref_Vars_any p W hW)
  have HO := Lib.hid (fun W (hW : p.Ok W) => ref_Of_any p 0 W hW)
  obtain ⟨b0, b1, b2⟩ := HBX.out _ (Below.refl _ _)
  clear bX
  obtain ⟨E, hE⟩ : ∃ E, pcheck p.ps p.vs p.xs = E := ⟨_, rfl⟩
  rw [hE]
  by_cases h1 : acheck p.xs = 0
  rotate_left
  · have hF : E = acheck p.xs := by rw [← hE]; unfold pcheck; rw [if_pos h1]
    obtain ⟨c, hc⟩ : ∃ c, acheck p.xs = c := ⟨_, rfl⟩
    rw [hc] at HC h1 hF
    have HF := Lib.hid hF
    have e1 : (c == 0) = false := by simpa using h1
    have e2 : (c != 0) = true := by simpa using h1
    clear hE hc hF h1 hp
    go_enter Try.func13, Try.ntmps13
    go_wp2_with (first
      | (go_at_call 30; refine (HC.out _ HX.out).mono ?_; rintro e w2 ⟨rfl, hb2⟩; obtain ⟨b0, b1, b2⟩ := HBX.out _ hb2; have hP := HX.out.at hb2))
    go_ret
    exact ⟨by rw [HF.out]; rfl, hB0.trans (hb2.mono hB0.size)⟩
  have hpos : 0 < p.xs.length := by
    rcases Nat.eq_zero_or_pos p.xs.length with q | q
    · unfold acheck at h1; rw [if_pos q] at h1; cases h1
    · exact q
  obtain ⟨⟨t, n⟩, hx0⟩ : ∃ x, p.xs[0]? = some x := ⟨_, List.getElem?_eq_getElem hpos⟩
  have htag : otag p.xs 0 = t := by unfold otag; rw [show (0 : Int).toNat = 0 from rfl, List.getD_eq_getElem?_getD, hx0]; rfl
  obtain ⟨ad, hB1, -, -, -⟩ := hp.body 0 _ hx0
  by_cases h2 : avars p.ps p.vs = 0
  rotate_left
  · have hF : E = avars p.ps p.vs := by rw [← hE]; unfold pcheck; rw [if_neg (by simpa using h1), if_pos h2]
    obtain ⟨c, hc⟩ : ∃ c, avars p.ps p.vs = c := ⟨_, rfl⟩
    rw [h1] at HC
    rw [hc] at HV h2 hF
    have HF := Lib.hid hF
    have e1 : (c == 0) = false := by simpa using h2
    have e2 : (c != 0) = true := by simpa using h2
    clear hE hc hF h1 h2 hp hx0 htag hB1
    go_enter Try.func13, Try.ntmps13
    go_wp2_with (first
      | (go_at_call 30; refine (HC.out _ HX.out).mono ?_; rintro e w2 ⟨rfl, hb2⟩; obtain ⟨b0, b1, b2⟩ := HBX.out _ hb2; have hP := HX.out.at hb2)
      | (go_at_call 15; refine (HV.out _ hP).mono ?_; rintro e w3 ⟨rfl, hb⟩; have hb3 := hb2.trans (hb.mono hb2.size)))
    go_ret
    exact ⟨by rw [HF.out]; rfl, hB0.trans (hb3.mono hB0.size)⟩
  rw [h1] at HC
  rw [h2] at HV
  have hpos' : (0 : Int) < (p.xs.length : Int) := by omega
  have HBD := Lib.hid (fun W (hW : Nodes W W.heap.size p.B p.xs) => show W.cell? ad = some (.int .i64 t) ∧ W.cell? ⟨ad.block, ad.off + 1, none⟩ = some (.int .i64 n) from by
    obtain ⟨ad', q, -, q1, q2⟩ := hW 0 _ hx0
    rw [hB1] at q
    cases q
    exact ⟨q1, q2⟩)
  have hE3 : E = if t ≠ 20 ∨ okind p.vs p.xs 0 ≠ 2 then 15 else 0 := by rw [← hE]; unfold pcheck; rw [if_neg (by simpa using h1), if_neg (by simpa using h2), htag]
  obtain ⟨z, hz⟩ : ∃ z, okind p.vs p.xs 0 = z := ⟨_, rfl⟩
  rw [hz] at HO hE3
  have HE3 := Lib.hid hE3
  clear hE h1 h2 hp hx0 htag hz hE3
  obtain ⟨ps, A, c, vs, B, e, xs⟩ := p
  simp only at hB1
  subst hB1
  simp only at HC HV HO HBX HBD hpos' b0 b1 b2 hB0 ⊢
  by_cases h3 : t = 20
  · subst h3
    by_cases h4 : z = 2
    · subst h4
      have HF := Lib.hid (show E = 0 by rw [HE3.out]; simp)
      go_enter Try.func13, Try.ntmps13
      go_wp2_with (first
        | (go_at_call 30; refine (HC.out _ HX.out).mono ?_; rintro e w2 ⟨rfl, hb2⟩; obtain ⟨b0, b1, b2⟩ := HBX.out _ hb2; have hP := HX.out.at hb2)
        | (go_at_call 15; refine (HV.out _ hP).mono ?_; rintro e w3 ⟨rfl, hb⟩; have hb3 := hb2.trans (hb.mono hb2.size); obtain ⟨b0, b1, b2⟩ := HBX.out _ hb3; have hP3 := hP.at hb; obtain ⟨g0, g1⟩ := HBD.out _ hP3.body)
        | (go_at_call 20; refine (HO.out _ hP3).mono ?_; rintro e w4 ⟨rfl, hb⟩; have hb4 := hb3.trans (hb.mono hb3.size)))
      go_ret
      exact ⟨by rw [HF.out]; rfl, hB0.trans (hb4.mono hB0.size)⟩
    · have HF := Lib.hid (show E = 15 by rw [HE3.out, if_pos (.inr h4)])
      have e1 : (z == 2) = false := by simpa using h4
      have e2 : (z != 2) = true := by simpa using h4
      go_enter Try.func13, Try.ntmps13
      go_wp2_with (first
        | (go_at_call 30; refine (HC.out _ HX.out).mono ?_; rintro e w2 ⟨rfl, hb2⟩; obtain ⟨b0, b1, b2⟩ := HBX.out _ hb2; have hP := HX.out.at hb2)
        | (go_at_call 15; refine (HV.out _ hP).mono ?_; rintro e w3 ⟨rfl, hb⟩; have hb3 := hb2.trans (hb.mono hb2.size); obtain ⟨b0, b1, b2⟩ := HBX.out _ hb3; have hP3 := hP.at hb; obtain ⟨g0, g1⟩ := HBD.out _ hP3.body)
        | (go_at_call 20; refine (HO.out _ hP3).mono ?_; rintro e w4 ⟨rfl, hb⟩; have hb4 := hb3.trans (hb.mono hb3.size)))
      go_ret
      exact ⟨by rw [HF.out]; rfl, hB0.trans (hb4.mono hB0.size)⟩
  · have HF := Lib.hid (show E = 15 by rw [HE3.out, if_pos (.inl h3)])
    have e1 : (t == 20) = false := by simpa using h3
    have e2 : (t != 20) = true := by simpa using h3
    go_enter Try.func13, Try.ntmps13
    go_wp2_with (first
      | (go_at_call 30; refine (HC.out _ HX.out).mono ?_; rintro e w2 ⟨rfl, hb2⟩; obtain ⟨b0, b1, b2⟩ := HBX.out _ hb2; have hP := HX.out.at hb2)
      | (go_at_call 15; refine (HV.out _ hP).mono ?_; rintro e w3 ⟨rfl, hb⟩; have hb3 := hb2.trans (hb.mono hb2.size); obtain ⟨b0, b1, b2⟩ := HBX.out _ hb3; have hP3 := hP.at hb; obtain ⟨g0, g1⟩ := HBD.out _ hP3.body)
      | (go_at_call 20; refine (HO.out _ hP3).mono ?_; rintro e w4 ⟨rfl, hb⟩; have hb4 := hb3.trans (hb.mono hb3.size)))
    go_ret
    exact ⟨by rw [HF.out]; rfl, hB0.trans (hb3.mono hB0.size)⟩

set_option maxRecDepth 100000 in
set_option maxHeartbeats 2000000 in
theorem ref_Same_any (p o : Prg) (w : World) (hp : p.Ok w) (ho : o.Ok w) :
    Calls Try.prog 11 #[.agg #[.int .i64 p.ps, .slice p.A p.vs.length p.c, .slice p.B p.xs.length p.e], .agg #[.int .i64 o.ps, .slice o.A o.vs.length o.c, .slice o.B o.xs.length o.e]] w fun e w' => e = .returned (.bool (decide (p.vs = o.vs ∧ p.xs = o.xs ∧ p.ps = o.ps))) ∧ Below w.heap.size w w' := by
  have hbA : Below w.heap.size w (w.alloc (.cells #[.int .i64 p.ps, .slice p.A p.vs.length p.c, .slice p.B p.xs.length p.e] 25)) := (Below.refl _ _).alloc (Nat.le_refl _) _
  have hB0 : Below w.heap.size w ((w.alloc (.cells #[.int .i64 p.ps, .slice p.A p.vs.length p.c, .slice p.B p.xs.length p.e] 25)).alloc (.cells #[.int .i64 o.ps, .slice o.A o.vs.length o.c, .slice o.B o.xs.length o.e] 25)) := hbA.alloc hbA.size _
  have bP := (Blk.new w 25 #[.int .i64 p.ps, .slice p.A p.vs.length p.c, .slice p.B p.xs.length p.e]).alloc (.cells #[.int .i64 o.ps, .slice o.A o.vs.length o.c, .slice o.B o.xs.length o.e] 25)
  have bO := Blk.new (w.alloc (.cells #[.int .i64 p.ps, .slice p.A p.vs.length p.c, .slice p.B p.xs.length p.e] 25)) 25 #[.int .i64 o.ps, .slice o.A o.vs.length o.c, .slice o.B o.xs.length o.e]
  rw [World.size_alloc] at bO
  have HP := Lib.hid (hp.at hB0)
  have HQ := Lib.hid (ho.at hB0)
  have hlp := bP.lt
  have hlo := bO.lt
  obtain ⟨w2, hw2⟩ : ∃ w2, (w.alloc (.cells #[.int .i64 p.ps, .slice p.A p.vs.length p.c, .slice p.B p.xs.length p.e] 25)).alloc (.cells #[.int .i64 o.ps, .slice o.A o.vs.length o.c, .slice o.B o.xs.length o.e] 25) = w2 := ⟨_, rfl⟩
  rw [hw2] at hB0 bP bO HP HQ hlp hlo
  have HBP := Lib.hid (fun W (h : Below w2.heap.size w2 W) => (bP.below h hlp).three)
  have HBO := Lib.hid (fun W (h : Below w2.heap.size w2 W) => (bO.below h hlo).three)
  have h1 := hp.lv
  have h2 := hp.lx
  have HI := Lib.hid (fun W (hW : p.Ok W) (hV : o.Ok W) => Ints_any p.A p.c p.vs o.A o.c o.vs W hW.vars hV.vars h1)
  have HS := Lib.hid (fun W (hW : p.Ok W) (hV : o.Ok W) => Arena.ref_Same_any p.B p.e p.xs o.B o.e o.xs W hW.body hV.body h2)
  have hR : decide (p.vs = o.vs ∧ p.xs = o.xs ∧ p.ps = o.ps) = (decide (p.vs = o.vs) && (decide (p.xs = o.xs) && (p.ps == o.ps))) := by
    by_cases q1 : p.vs = o.vs <;> by_cases q2 : p.xs = o.xs <;> by_cases q3 : p.ps = o.ps <;> simp [q1, q2, q3]
  rw [hR]
  generalize decide (p.vs = o.vs) = a1 at *
  generalize decide (p.xs = o.xs) = a2 at *
  clear hp ho bP bO hR h1 h2
  have HW2 := Lib.hid hw2
  clear hw2
  obtain ⟨b0, b1, b2⟩ := HBP.out _ (Below.refl _ _)
  obtain ⟨c0, c1, c2⟩ := HBO.out _ (Below.refl _ _)
  go_enter Try.func11, Try.ntmps11
  go_wp2_with fail
  rw [HW2.out]
  refine (HI.out _ HP.out HQ.out).mono ?_
  rintro e w3 ⟨rfl, hb3⟩
  obtain ⟨b0, b1, b2⟩ := HBP.out _ hb3
  obtain ⟨c0, c1, c2⟩ := HBO.out _ hb3
  have hP3 := HP.out.at hb3
  have hQ3 := HQ.out.at hb3
  cases a1
  · go_wp2_with (go_at_call 27; refine (HS.out _ hP3 hQ3).mono ?_; rintro e w4 ⟨rfl, hb4⟩; have hb5 := hb3.trans (hb4.mono hb3.size); obtain ⟨b0, b1, b2⟩ := HBP.out _ hb5; obtain ⟨c0, c1, c2⟩ := HBO.out _ hb5)
    go_ret
    exact ⟨rfl, hB0.trans (hb5.mono hB0.size)⟩
  · cases a2
    · go_wp2_with (go_at_call 27; refine (HS.out _ hP3 hQ3).mono ?_; rintro e w4 ⟨rfl, hb4⟩; have hb5 := hb3.trans (hb4.mono hb3.size); obtain ⟨b0, b1, b2⟩ := HBP.out _ hb5; obtain ⟨c0, c1, c2⟩ := HBO.out _ hb5)
      go_ret
      exact ⟨rfl, hB0.trans (hb5.mono hB0.size)⟩
    · go_wp2_with (go_at_call 27; refine (HS.out _ hP3 hQ3).mono ?_; rintro e w4 ⟨rfl, hb4⟩; have hb5 := hb3.trans (hb4.mono hb3.size); obtain ⟨b0, b1, b2⟩ := HBP.out _ hb5; obtain ⟨c0, c1, c2⟩ := HBO.out _ hb5)
      go_ret
      exact ⟨by simp, hB0.trans (hb5.mono hB0.size)⟩

end Go.Proofs.Yteknfglfbkknaaa.Kinds
