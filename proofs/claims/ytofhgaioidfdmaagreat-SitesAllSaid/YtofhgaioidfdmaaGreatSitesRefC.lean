/-
  The reference of all mutants, walked: is a delta a mutant's; a program that is changed by one.
-/
import Derived.Test.YtofhgaioidfdmaaGreatSitesRefA
import Derived.Test.YtofhgaioidfdmaaGreatSitesRefB
import Derived.Test.YtofhgaioidfdmaaGreatDeltaR
import Derived.Test.YtofhgaioidfdmaaGreatDeltaO
set_option linter.unusedVariables false
namespace Go.Proofs.YtofhgaioidfdmaaGreat.Sites
open Go.RowKit Mem _root_.Go.Proofs.YtofhgaioidfdmaaGreat.Arena _root_.Go.Proofs.YtofhgaioidfdmaaGreat.Delta _root_.Go.Proofs.YtofhgaioidfdmaaGreat.Path _root_.Go.Proofs.YtofhgaioidfdmaaGreat.Cat _root_.Go.Proofs.YtofhgaioidfdmaaGreat.Kinds
attribute [local go_sem ↓] Go.wp_at_zero Go.wp_at_succ

/-- Does a path lead to a node at which the catalogue lets it? -/
def mlet (xs : List Nd) (q : List Int) (op n : Int) : Bool := decide (0 ≤ pfind xs q) && isv xs (pfind xs q) op n
/-- Is it a mutant's? -/
def mis (ps : Int) (vs : List Int) (xs : List Nd) (q : List Int) (op n : Int) : Bool := decide (pcheck ps vs xs = 0) && mlet xs q op n

set_option maxRecDepth 100000 in
set_option maxHeartbeats 2000000 in
theorem ref_MIs_any (p : Prg) (d : Dlt) (w : World) (hp : p.Ok w) (hd : d.Ok w) :
    Calls Tryz.prog 36 #[.agg #[.int .i64 p.ps, .slice p.A p.vs.length p.c, .slice p.B p.xs.length p.e], .agg #[.slice d.A d.p.length d.c, .int .i64 d.op, .int .i64 d.n]] w fun e w' => e = .returned (.bool (mis p.ps p.vs p.xs d.p d.op d.n)) ∧ Below w.heap.size w w' := by
  obtain ⟨ps, A, c, vs, B, ce, xs⟩ := p
  obtain ⟨DA, dc, q, op, v⟩ := d
  simp only at *
  have hB1 : Below w.heap.size w (w.alloc (.cells #[.int .i64 ps, .slice A vs.length c, .slice B xs.length ce] 25)) := (Below.refl _ _).alloc (Nat.le_refl _) _
  have hB2 := hB1.alloc hB1.size (.cells #[.slice DA q.length dc, .int .i64 op, .int .i64 v] 34)
  have bP := (Blk.new w 25 #[.int .i64 ps, .slice A vs.length c, .slice B xs.length ce]).alloc (.cells #[.slice DA q.length dc, .int .i64 op, .int .i64 v] 34)
  have bD := Blk.new (w.alloc (.cells #[.int .i64 ps, .slice A vs.length c, .slice B xs.length ce] 25)) 34 #[.slice DA q.length dc, .int .i64 op, .int .i64 v]
  simp only [World.size_alloc] at bD
  obtain ⟨w3, hw3⟩ : ∃ w3, (w.alloc (.cells #[.int .i64 ps, .slice A vs.length c, .slice B xs.length ce] 25)).alloc (.cells #[.slice DA q.length dc, .int .i64 op, .int .i64 v] 34) = w3 := ⟨_, rfl⟩
  rw [hw3] at hB2 bP bD
  have HW3 := Lib.hid hw3
  have hp3 := hp.at hB2
  have hd3 := hd.at hB2
  have HF := Lib.hid (Path.ref_Find_any B ce xs DA dc q w3 hp3.body hp3.lx hd3.path hd3.len)
  have HC := Lib.hid (fun W (h : Below w3.heap.size w3 W) => ref_Check_any ⟨ps, A, c, vs, B, ce, xs⟩ W (hp3.at h))
  have HI := Lib.hid (fun W (h : Below w3.heap.size w3 W) => ref_Is_any B ce xs (pfind xs q) op v W (hp3.body.at h) hp3.lx)
  have HS := Lib.hid (fun W (h : Below w3.heap.size w3 W) => And.intro (bP.below h bP.lt).three (bD.below h bD.lt).three)
  have hE : Hid (mis ps vs xs q op v = (decide (pcheck ps vs xs = 0) && (decide (0 ≤ pfind xs q) && isv xs (pfind xs q) op v))) := Lib.hid rfl
  obtain ⟨p0, p1, p2⟩ := bP.three
  obtain ⟨d0, d1, d2⟩ := bD.three
  generalize pfind xs q = k at *
  generalize isv xs k op v = b at *
  simp only at HC
  generalize pcheck ps vs xs = e9 at *
  generalize mis ps vs xs q op v = R at *
  clear hB1 hw3 hp3 hd3 hp hd bP bD
  by_cases h9 : e9 = 0
  · subst h9
    by_cases hk : 0 ≤ k
    · have hEE := Lib.hid (show R = b by rw [hE.out, decide_eq_true hk]; simp)
      clear hE
      go_enter Tryz.func36, Tryz.ntmps36
      go_wp2_with (first
        | (go_at_call 71; rw [HW3.out]; refine HF.out.mono ?_; rintro e w4 ⟨rfl, hb4⟩; obtain ⟨⟨p0, p1, p2⟩, d0, d1, d2⟩ := HS.out _ hb4)
        | (go_at_call 31; refine (HC.out _ hb4).mono ?_; rintro e w5 ⟨rfl, hb5⟩; have hb5 := hb4.trans (hb5.mono hb4.size); obtain ⟨⟨p0, p1, p2⟩, d0, d1, d2⟩ := HS.out _ hb5)
        | (go_at_call 65; refine (HI.out _ hb5).mono ?_; rintro e w6 ⟨rfl, hb6⟩; have hb6 := hb5.trans (hb6.mono hb5.size))
        | fail)
      go_ret
      exact ⟨by rw [hEE.out]; first | done | rfl, hB2.trans (hb6.mono hB2.size)⟩
    · have hEE := Lib.hid (show R = false by rw [hE.out, decide_eq_false hk]; simp)
      clear hE
      go_enter Tryz.func36, Tryz.ntmps36
      go_wp2_with (first
        | (go_at_call 71; rw [HW3.out]; refine HF.out.mono ?_; rintro e w4 ⟨rfl, hb4⟩; obtain ⟨⟨p0, p1, p2⟩, d0, d1, d2⟩ := HS.out _ hb4)
        | (go_at_call 31; refine (HC.out _ hb4).mono ?_; rintro e w5 ⟨rfl, hb5⟩; have hb5 := hb4.trans (hb5.mono hb4.size); obtain ⟨⟨p0, p1, p2⟩, d0, d1, d2⟩ := HS.out _ hb5)
        | fail)
      go_ret
      exact ⟨by rw [hEE.out]; first | done | rfl, hB2.trans (hb5.mono hB2.size)⟩
  · have e0 : (e9 == 0) = false := by simpa using h9
    have hEE := Lib.hid (show R = false by rw [hE.out, decide_eq_false h9]; simp)
    clear hE h9
    go_enter Tryz.func36, Tryz.ntmps36
    go_wp2_with (first
      | (go_at_call 71; rw [HW3.out]; refine HF.out.mono ?_; rintro e w4 ⟨rfl, hb4⟩; obtain ⟨⟨p0, p1, p2⟩, d0, d1, d2⟩ := HS.out _ hb4)
      | (go_at_call 31; refine (HC.out _ hb4).mono ?_; rintro e w5 ⟨rfl, hb5⟩; have hb5 := hb4.trans (hb5.mono hb4.size); obtain ⟨⟨p0, p1, p2⟩, d0, d1, d2⟩ := HS.out _ hb5)
      | fail)
    go_ret
    exact ⟨by rw [hEE.out]; first | done | rfl, hB2.trans (hb5.mono hB2.size)⟩

/-- What is wrong; what it becomes. -/
def merr (ps : Int) (vs : List Int) (xs : List Nd) (q : List Int) (op n : Int) : Int := if pcheck ps vs xs ≠ 0 then pcheck ps vs xs else if mlet xs q op n = true then 0 else 17
/-- A program that is changed by one of all, or what is wrong. -/
def MEndsE (E : Int) (R : List Nd) (ps : Int) (VA : Option Addr) (vs : List Int) (w : World) (e : Ending) (w' : World) : Prop :=
  Below w.heap.size w w' ∧
  ((E = 0 ∧ ∃ A c B ce, e = .returned (.tuple #[.agg #[.int .i64 ps, .slice A vs.length c, .slice B R.length ce], .int .i64 0]) ∧ Prg.Ok ⟨ps, A, c, vs, B, ce, R⟩ w' ∧ ∀ ad, A = some ad → VA = some ad ∨ w.heap.size ≤ ad.block) ∨
   (E ≠ 0 ∧ ∃ A c B ce, e = .returned (.tuple #[.agg #[.int .i64 0, .slice A 0 c, .slice B 0 ce], .int .i64 E]) ∧ Prg.Ok ⟨0, A, c, [], B, ce, []⟩ w'))
def MEnds (p : Prg) (d : Dlt) (w : World) (e : Ending) (w' : World) : Prop := MEndsE (merr p.ps p.vs p.xs d.p d.op d.n) (anew p.xs d.p d.op d.n) p.ps p.A p.vs w e w'

theorem mis_apply {ps : Int} {vs : List Int} {xs : List Nd} {q : List Int} {op n : Int} (h : mis ps vs xs q op n = true) : aerr xs q op n = 0 ∧ xs.length ≤ 200 ∧ pcheck ps vs xs = 0 ∧ (q, op, n) ∈ msites xs := by
  unfold mis mlet at h
  simp only [Bool.and_eq_true, decide_eq_true_eq] at h
  obtain ⟨h1, h2, h3⟩ := h
  obtain ⟨hw, hl⟩ := pcheck_whole h1
  have hm := (sites_mem hw).2 ⟨h2, h3⟩
  obtain ⟨a, m, -, -, -, -, h4, -⟩ := sites_apply hw hm
  exact ⟨h4, hl, h1, hm⟩

set_option maxRecDepth 100000 in
set_option maxHeartbeats 4000000 in
theorem ref_Mutant_any (p : Prg) (d : Dlt) (w : World) (hp : p.Ok w) (hd : d.Ok w) :
    Calls Tryz.prog 17 #[.agg #[.int .i64 p.ps, .slice p.A p.vs.length p.c, .slice p.B p.xs.length p.e], .agg #[.slice d.A d.p.length d.c, .int .i64 d.op, .int .i64 d.n]] w (MEnds p d w) := by
  obtain ⟨ps, VA, vc, vs, B, cap, xs⟩ := p
  obtain ⟨DA, dc, dp, op, n⟩ := d
  have hX := Boxes.mk' ps VA vc vs B xs cap DA dc dp op n w
  have HW := Lib.hid (w3_is w ps VA vc vs B xs cap DA dc dp op n)
  generalize w3 w ps VA vc vs B xs cap DA dc dp op n = wz at *
  have HC := Lib.hid (ref_Check_any ⟨ps, VA, vc, vs, B, cap, xs⟩ wz (hp.at hX.b))
  have HI := Lib.hid (fun W (h : Boxes ps VA vc vs B xs cap DA dc dp op n w W) => ref_MIs_any ⟨ps, VA, vc, vs, B, cap, xs⟩ ⟨DA, dc, dp, op, n⟩ W (hp.at h.b) (hd.at h.b))
  have HAp := Lib.hid (fun (h0 : mis ps vs xs dp op n = true) W (h : Boxes ps VA vc vs B xs cap DA dc dp op n w W) => (ref_Apply_anyF ⟨ps, VA, vc, vs, B, cap, xs⟩ ⟨DA, dc, dp, op, n⟩ W (hp.at h.b) (hd.at h.b) (by have := (mis_apply h0).2.1; show xs.length ≤ _; omega)).mono fun e w' q => q.ok (mis_apply h0).1)
  have HV := Lib.hid (fun (ad : Addr) (e : VA = some ad) (hv : vs ≠ []) => show ad.block < w.heap.size from by
    obtain ⟨x, r, hx⟩ := ne_cons hv
    obtain ⟨ad', e', hb, -⟩ := hp.vars 0 x (by simp only [hx]; rfl)
    simp only at e'
    rw [e] at e'
    cases e'
    exact hb)
  have HM : Hid (merr ps vs xs dp op n = if pcheck ps vs xs ≠ 0 then pcheck ps vs xs else if mis ps vs xs dp op n = true then 0 else 17) := Lib.hid (by
    unfold merr mis
    by_cases h : pcheck ps vs xs = 0
    · rw [if_neg (show ¬ pcheck ps vs xs ≠ 0 from fun q => q h), if_neg (show ¬ pcheck ps vs xs ≠ 0 from fun q => q h), decide_eq_true h, Bool.true_and]
    · rw [if_pos h, if_pos h])
  have HX := Lib.hid hX
  unfold MEnds
  simp only at HC HI HAp ⊢
  obtain ⟨⟨p0, p1, p2⟩, ⟨d0, d1, d2⟩, ⟨r0, r1, r2⟩, f0, f1, f2⟩ := hX.cells
  rw [HW.out] at p0 p1 p2 d0 d1 d2 r0 r1 r2 f0 f1 f2
  have hmp : mis ps vs xs dp op n = true → pcheck ps vs xs = 0 := fun h => (mis_apply h).2.2.1
  generalize anew xs dp op n = R at *
  generalize merr ps vs xs dp op n = E at *
  generalize mis ps vs xs dp op n = b at *
  generalize pcheck ps vs xs = e9 at *
  clear hp hd hX
  by_cases h9 : e9 = 0
  · subst h9
    clear hmp
    cases b
    · have HE := Lib.hid (show E = 17 by rw [HM.out]; rfl)
      go_enter Tryz.func17, Tryz.ntmps17
      go_wp2_with (first
        | (go_at_call 31; rw [← HW.out]; refine HC.out.mono ?_; rintro e w1 ⟨rfl, hb1⟩; have hX1 := HX.out.below hb1; obtain ⟨⟨p0, p1, p2⟩, ⟨d0, d1, d2⟩, ⟨r0, r1, r2⟩, f0, f1, f2⟩ := hX1.cells)
        | (go_at_call 36; refine (HI.out _ hX1).mono ?_; rintro e w2 ⟨rfl, hb2⟩; have hX2 := hX1.below hb2; obtain ⟨⟨p0, p1, p2⟩, ⟨d0, d1, d2⟩, ⟨r0, r1, r2⟩, f0, f1, f2⟩ := hX2.cells)
        | fail)
      refine bodyPost_ret (v := .tuple #[.agg #[.int .i64 0, .slice none 0 0, .slice none 0 0], .int .i64 17]) (by simp [results, Tryz.results17, go_sem, r0, r1, r2]) rfl ?_
      exact ⟨hX2.stored _ _ _, .inr ⟨by rw [HE.out]; decide, none, 0, none, 0, by rw [HE.out], zero_ok _⟩⟩
    · have HE := Lib.hid (show E = 0 by rw [HM.out]; rfl)
      have HA2 := Lib.hid (HAp.out rfl)
      clear HAp
      go_enter Tryz.func17, Tryz.ntmps17
      go_wp2_with (first
        | (go_at_call 31; rw [← HW.out]; refine HC.out.mono ?_; rintro e w1 ⟨rfl, hb1⟩; have hX1 := HX.out.below hb1; obtain ⟨⟨p0, p1, p2⟩, ⟨d0, d1, d2⟩, ⟨r0, r1, r2⟩, f0, f1, f2⟩ := hX1.cells)
        | (go_at_call 36; refine (HI.out _ hX1).mono ?_; rintro e w2 ⟨rfl, hb2⟩; have hX2 := hX1.below hb2; obtain ⟨⟨p0, p1, p2⟩, ⟨d0, d1, d2⟩, ⟨r0, r1, r2⟩, f0, f1, f2⟩ := hX2.cells)
        | (go_at_call 37; refine (HA2.out _ hX2).mono ?_; rintro e w4 ⟨hb4, A, c, B4, ce, rfl, hok, hfar⟩; have hX4 := hX2.below hb4; obtain ⟨⟨p0, p1, p2⟩, ⟨d0, d1, d2⟩, ⟨r0, r1, r2⟩, f0, f1, f2⟩ := hX4.cells)
        | fail)
      refine bodyPost_ret (v := .tuple #[.agg #[.int .i64 ps, .slice A vs.length c, .slice B4 R.length ce], .int .i64 0]) (by simp [results, Tryz.results17, go_sem, r0, r1, r2]) rfl ?_
      refine ⟨hX4.stored _ _ _, .inl ⟨HE.out, A, c, B4, ce, rfl, ?_, fun ad e => (hfar ad e).imp_right (Nat.le_trans hX2.b.size)⟩⟩
      have hvf : vs ≠ [] → ∀ ad, A = some ad → ad.block ≠ w.heap.size + 1 + 1 := by
        intro hv ad e
        rcases hfar ad e with q | q
        · have := HV.out ad q hv
          omega
        · have := hX2.r.lt
          omega
      exact stored_ok hX4 hok.vars hvf hok.body hok.lv hok.lx hok.cv hok.ce hok.nv hok.nb
  · have hb : b = false := by
      cases b
      · rfl
      · exact absurd (hmp rfl) h9
    subst hb
    have HE := Lib.hid (show E = e9 by rw [HM.out, if_pos h9])
    have e0 : (e9 == 0) = false := by simpa using h9
    have H9 := Lib.hid h9
    clear hmp h9
    go_enter Tryz.func17, Tryz.ntmps17
    go_wp2_with (first
      | (go_at_call 31; rw [← HW.out]; refine HC.out.mono ?_; rintro e w1 ⟨rfl, hb1⟩; have hX1 := HX.out.below hb1; obtain ⟨⟨p0, p1, p2⟩, ⟨d0, d1, d2⟩, ⟨r0, r1, r2⟩, f0, f1, f2⟩ := hX1.cells)
      | fail)
    refine bodyPost_ret (v := .tuple #[.agg #[.int .i64 0, .slice none 0 0, .slice none 0 0], .int .i64 e9]) (by simp [results, Tryz.results17, go_sem, r0, r1, r2]) rfl ?_
    exact ⟨hX1.stored _ _ _, .inr ⟨by rw [HE.out]; exact H9.out, none, 0, none, 0, by rw [HE.out], zero_ok _⟩⟩

end Go.Proofs.YtofhgaioidfdmaaGreat.Sites
