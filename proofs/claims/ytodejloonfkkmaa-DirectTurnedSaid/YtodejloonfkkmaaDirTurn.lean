/-
  A condition that is turned, with its branches changed about (plain).
-/
import Derived.Test.YtodejloonfkkmaaMachG
set_option linter.unusedVariables false
namespace Go.Proofs.Ytodejloonfkkmaa.Mach
open _root_.Go.Proofs.Ytodejloonfkkmaa.Arena _root_.Go.Proofs.Ytodejloonfkkmaa.Kinds

section
variable {β : Type} (g : Nd → List β → β) (d : β)
theorem fold_one {C : List Nd} (h : scan 1 C = some C.length) : ∃ c, fold g C = [c] := by
  have hl := fold_len g C 1 h
  match hq : fold g C, hl with
  | [c], _ => exact ⟨c, rfl⟩
theorem fold_three {C A B : List Nd} (hC : scan 1 C = some C.length) (hA : scan 1 A = some A.length) (hB : scan 1 B = some B.length) {c a b : β} (ec : fold g C = [c]) (ea : fold g A = [a]) (eb : fold g B = [b]) : fold g (C ++ (A ++ B)) = [c, a, b] := by
  rw [fold_append g C 1 _ hC, fold_append g A 1 _ hA, ec, ea, eb]; rfl
/-- What both programs mean, of the same three. -/
theorem turn_val {N : Int} (hN : ar (23, N) = 3) {C A B : List Nd} (hC : scan 1 C = some C.length) (hA : scan 1 A = some A.length) (hB : scan 1 B = some B.length)
    (hw : scan 1 ((20, 1) :: (23, N) :: (C ++ (A ++ B))) = some ((20, 1) :: (23, N) :: (C ++ (A ++ B))).length) (hw' : scan 1 ((20, 1) :: (23, N) :: (6, 0) :: (C ++ (B ++ A))) = some ((20, 1) :: (23, N) :: (6, 0) :: (C ++ (B ++ A))).length) :
    ∃ c a b, (∀ x ∈ fold g C, x = c) ∧ (∀ x ∈ fold g A, x = a) ∧ (∀ x ∈ fold g B, x = b) ∧ fold g C = [c] ∧ fold g A = [a] ∧ fold g B = [b] ∧
      val g d ((20, 1) :: (23, N) :: (C ++ (A ++ B))) 0 = g (20, 1) [g (23, N) [c, a, b]] ∧ val g d ((20, 1) :: (23, N) :: (6, 0) :: (C ++ (B ++ A))) 0 = g (20, 1) [g (23, N) [g (6, 0) [c], b, a]] := by
  obtain ⟨c, ec⟩ := fold_one g hC
  obtain ⟨a, ea⟩ := fold_one g hA
  obtain ⟨b, eb⟩ := fold_one g hB
  have a1 : (ar (20, 1)).toNat = 1 := by decide
  have a6 : (ar (6, 0)).toNat = 1 := by decide
  have a3 : (ar (23, N)).toNat = 3 := by rw [hN]; rfl
  refine ⟨c, a, b, fun x hx => ?_, fun x hx => ?_, fun x hx => ?_, ec, ea, eb, ?_, ?_⟩
  · rw [ec] at hx; exact List.mem_singleton.1 hx
  · rw [ea] at hx; exact List.mem_singleton.1 hx
  · rw [eb] at hx; exact List.mem_singleton.1 hx
  · unfold val
    rw [whole_part hw, fold_cons, fold_cons, fold_three g hC hA hB ec ea eb, a1, a3]; rfl
  · unfold val
    rw [whole_part hw', fold_cons, fold_cons, fold_cons, fold_three g hC hB hA ec eb ea, a1, a3, a6]; rfl
end
theorem if_ar {N : Int} (h : 0 ≤ ar (23, N)) : N = 0 ∧ ar (23, N) = 3 := by
  unfold ar asks at h ⊢
  simp at h ⊢
  by_cases q : N < 0 ∨ 0 < N
  · rw [if_pos q] at h; omega
  · exact ⟨by omega, by omega⟩
/-- A WHOLE PROGRAM OF ONE If, and its parts. -/
theorem turn_parts {N : Int} {r : List Nd} (hw : scan 1 ((20, 1) :: (23, N) :: r) = some ((20, 1) :: (23, N) :: r).length) : N = 0 ∧ ∃ C A B, r = C ++ (A ++ B) ∧ scan 1 C = some C.length ∧ scan 1 A = some A.length ∧ scan 1 B = some B.length := by
  have a1 : ar (20, 1) = 1 := by decide
  rw [scan_good (by rw [a1]; decide), a1] at hw
  obtain ⟨m, hm, e⟩ := Option.map_eq_some_iff.1 hw
  have hm2 : m = r.length + 1 := by simp at e; omega
  subst hm2
  have hm : scan (0 + 1) ((23, N) :: r) = some (r.length + 1) := hm
  have h0 : 0 ≤ ar (23, N) := by
    by_cases q : 0 ≤ ar (23, N)
    · exact q
    · rw [scan_bad (by omega)] at hm; cases hm
  obtain ⟨hN, h3⟩ := if_ar h0
  rw [scan_good h0, h3] at hm
  obtain ⟨m, hm, e⟩ := Option.map_eq_some_iff.1 hm
  have hm2 : m = r.length := by omega
  subst hm2
  have hm : scan (1 + (1 + 1)) r = some r.length := hm
  rw [scan_add] at hm
  cases h1 : scan 1 r with
  | none => rw [h1] at hm; cases hm
  | some n1 =>
    rw [h1] at hm
    simp only [Option.bind_some, Option.map_eq_some_iff] at hm
    obtain ⟨m2, hm, e2⟩ := hm
    rw [scan_add] at hm
    cases h2 : scan 1 (r.drop n1) with
    | none => rw [h2] at hm; cases hm
    | some n2 =>
      rw [h2] at hm
      simp only [Option.bind_some, Option.map_eq_some_iff, List.drop_drop] at hm
      obtain ⟨n3, h3', e3⟩ := hm
      have l1 := (scan_le r 1 n1 h1).2
      have l2 := (scan_le (r.drop n1) 1 n2 h2).2
      rw [List.length_drop] at l2
      refine ⟨hN, r.take n1, (r.drop n1).take n2, r.drop (n1 + n2), ?_, ?_, ?_, ?_⟩
      · rw [← List.drop_drop, List.take_append_drop, List.take_append_drop]
      · have := scan_prefix r 1 n1 [] h1
        rw [List.append_nil] at this
        rw [this, List.length_take]; congr 1; omega
      · have := scan_prefix (r.drop n1) 1 n2 [] h2
        rw [List.append_nil] at this
        rw [this, List.length_take, List.length_drop]; congr 1; omega
      · rw [h3', List.length_drop]; congr 1; omega
theorem turn_scan {N : Int} (hN : ar (23, N) = 3) {C A B : List Nd} (hC : scan 1 C = some C.length) (hA : scan 1 A = some A.length) (hB : scan 1 B = some B.length) : scan 1 ((20, 1) :: (23, N) :: (6, 0) :: (C ++ (B ++ A))) = some ((20, 1) :: (23, N) :: (6, 0) :: (C ++ (B ++ A))).length := by
  have a1 : ar (20, 1) = 1 := by decide
  have a6 : ar (6, 0) = 1 := by decide
  have one : ∀ {P : List Nd} (Z : List Nd), scan 1 P = some P.length → scan 1 (P ++ Z) = some P.length := fun {P} Z h => by
    have := scan_prefix P 1 P.length Z h
    rwa [List.take_of_length_le (Nat.le_refl _)] at this
  have two : scan (1 + 1) (B ++ A) = some (B ++ A).length := by
    rw [scan_add, one A hB]
    simp only [Option.bind_some, List.drop_left]
    rw [hA, List.length_append]; rfl
  have three : scan (1 + (1 + 1)) (C ++ (B ++ A)) = some (C ++ (B ++ A)).length := by
    rw [scan_add, one _ hC]
    simp only [Option.bind_some, List.drop_left]
    rw [two]; show some _ = some _; congr 1; simp only [List.length_append]
  rw [scan_good (by rw [a1]; decide), a1]
  show Option.map _ (scan (0 + 1) _) = _
  rw [scan_good (by rw [hN]; decide), hN]
  show Option.map _ (Option.map _ (scan (2 + 1) _)) = _
  rw [scan_good (by rw [a6]; decide), a6]
  show Option.map _ (Option.map _ (Option.map _ (scan (1 + (1 + 1)) _))) = _
  rw [three]; rfl
/-- A CONDITION THAT IS TURNED does the same, for one unit of fuel more. -/
theorem run_turned {C A B : List Nd} (vs args : List Int) (f : Nat) (hf : 2 ≤ f) (hC : scan 1 C = some C.length) (hA : scan 1 A = some A.length) (hB : scan 1 B = some B.length)
    (hw : scan 1 ((20, 1) :: (23, 0) :: (C ++ (A ++ B))) = some ((20, 1) :: (23, 0) :: (C ++ (A ++ B))).length)
    (hcond : ∀ s, WT vs s → s.over = false → ∀ c, fold nodeM C = [c] → (c s).1.over = false → (c s).2 = 0 ∨ (c s).2 = 1) (hbeg : WT vs (begin_ vs args f)) :
    (mrun vs ((20, 1) :: (23, 0) :: (C ++ (A ++ B))) args f).kind = (mrun vs ((20, 1) :: (23, 0) :: (6, 0) :: (C ++ (B ++ A))) args (f + 1)).kind ∧ (mrun vs ((20, 1) :: (23, 0) :: (C ++ (A ++ B))) args f).value = (mrun vs ((20, 1) :: (23, 0) :: (6, 0) :: (C ++ (B ++ A))) args (f + 1)).value ∧
    (mrun vs ((20, 1) :: (23, 0) :: (6, 0) :: (C ++ (B ++ A))) args (f + 1)).steps = (mrun vs ((20, 1) :: (23, 0) :: (C ++ (A ++ B))) args f).steps + 1 ∧ (mrun vs ((20, 1) :: (23, 0) :: (C ++ (A ++ B))) args f).ev = (mrun vs ((20, 1) :: (23, 0) :: (6, 0) :: (C ++ (B ++ A))) args (f + 1)).ev := by
  have h3 : ar (23, 0) = 3 := by decide
  obtain ⟨c, a, b, -, -, -, ec, ea, eb, v1, v2⟩ := turn_val nodeM (pureM 0) (N := 0) h3 hC hA hB hw (turn_scan h3 hC hA hB)
  have nc : Nice c := nice_fold C c (by rw [ec]; exact List.mem_singleton_self _)
  have na : Nice a := nice_fold A a (by rw [ea]; exact List.mem_singleton_self _)
  have nb : Nice b := nice_fold B b (by rw [eb]; exact List.mem_singleton_self _)
  have hcd := fun s h1 h2 => hcond s h1 h2 c ec
  have key : (mean ((20, 1) :: (23, 0) :: (6, 0) :: (C ++ (B ++ A))) 0 (begin_ vs args (f + 1))).1 = (mean ((20, 1) :: (23, 0) :: (C ++ (A ++ B))) 0 (begin_ vs args f)).1.late 1 := by
    unfold mean
    rw [v1, v2]
    have e1 : nodeM (20, 1) [nodeM (23, 0) [c, a, b]] = enterM (bindM (enterM (bindM c fun v => if v = 1 then a else b)) fun _ => pureM 0) := by
      have : nodeM (23, 0) [c, a, b] = enterM (bindM c fun v => if v = 1 then a else b) := by
        show enterM (bindM c (behindM (23, 0) [c, a, b])) = _
        congr 2
        funext v
        unfold behindM
        simp only
        rw [if_neg (by decide), if_neg (by decide), if_neg (by decide), if_neg (by decide), if_neg (by decide), if_neg (by decide), if_pos trivial]
        split <;> rfl
      rw [this]; rfl
    have e2 : nodeM (20, 1) [nodeM (23, 0) [nodeM (6, 0) [c], b, a]] = enterM (bindM (enterM (bindM (enterM (bindM c fun v => pureM (IntKind.i64.wrap (1 - v)))) fun v => if v = 1 then b else a)) fun _ => pureM 0) := by
      have h6 : nodeM (6, 0) [c] = enterM (bindM c fun v => pureM (IntKind.i64.wrap (1 - v))) := rfl
      have : nodeM (23, 0) [nodeM (6, 0) [c], b, a] = enterM (bindM (nodeM (6, 0) [c]) fun v => if v = 1 then b else a) := by
        show enterM (bindM _ (behindM (23, 0) [nodeM (6, 0) [c], b, a])) = _
        congr 2
        funext v
        unfold behindM
        simp only
        rw [if_neg (by decide), if_neg (by decide), if_neg (by decide), if_neg (by decide), if_neg (by decide), if_neg (by decide), if_pos trivial]
        split <;> rfl
      rw [this, h6]; rfl
    rw [e1, e2]
    -- the two beginnings
    have hs : (begin_ vs args (f + 1)).tick.tick.tick = (begin_ vs args f).tick.tick.late 1 := rfl
    have wt2 : WT vs (begin_ vs args f).tick.tick := hbeg.tick.tick
    have inner : (enterM (bindM (enterM (bindM c fun v => pureM (IntKind.i64.wrap (1 - v)))) fun v => if v = 1 then b else a) (begin_ vs args (f + 1)).tick) = ((enterM (bindM c fun v => if v = 1 then a else b) (begin_ vs args f).tick).1.late 1, (enterM (bindM c fun v => if v = 1 then a else b) (begin_ vs args f).tick).2) := by
      rw [enter_on (s := (begin_ vs args (f + 1)).tick) rfl (by show f + 1 - 1 ≠ 0; omega), enter_on (s := (begin_ vs args f).tick) rfl (by show f - 1 ≠ 0; omega)]
      have hl := nc.late (begin_ vs args f).tick.tick 1 rfl
      by_cases ho : (c (begin_ vs args f).tick.tick).1.over = true
      · have h1 : enterM (bindM c fun v => pureM (IntKind.i64.wrap (1 - v))) (begin_ vs args (f + 1)).tick.tick = ((c (begin_ vs args f).tick.tick).1.late 1, 0) := by
          rw [enter_on (s := (begin_ vs args (f + 1)).tick.tick) rfl (by show f + 1 - 1 - 1 ≠ 0; omega), hs, bind_over (by rw [hl]; exact ho), hl]
        rw [bind_over (by rw [h1]; exact ho), h1, bind_over ho]
      · have ho : (c (begin_ vs args f).tick.tick).1.over = false := by simpa using ho
        have h1 : enterM (bindM c fun v => pureM (IntKind.i64.wrap (1 - v))) (begin_ vs args (f + 1)).tick.tick = ((c (begin_ vs args f).tick.tick).1.late 1, IntKind.i64.wrap (1 - (c (begin_ vs args f).tick.tick).2)) := by
          rw [enter_on (s := (begin_ vs args (f + 1)).tick.tick) rfl (by show f + 1 - 1 - 1 ≠ 0; omega), hs, bind_on (by rw [hl]; exact ho), hl]; rfl
        rw [bind_on (by rw [h1]; exact ho), h1, bind_on ho]
        simp only
        rcases hcd _ wt2 rfl ho with hv | hv
        · rw [hv, if_pos (by decide), if_neg (by decide)]
          exact nb.late _ 1 ho
        · rw [hv, if_neg (by decide), if_pos rfl]
          exact na.late _ 1 ho
    rw [enter_on (s := begin_ vs args (f + 1)) rfl (by show f + 1 ≠ 0; omega), enter_on (s := begin_ vs args f) rfl (by show f ≠ 0; omega)]
    by_cases ho : (enterM (bindM c fun v => if v = 1 then a else b) (begin_ vs args f).tick).1.over = true
    · rw [bind_over (by rw [inner]; exact ho), bind_over ho, inner]
    · have ho : (enterM (bindM c fun v => if v = 1 then a else b) (begin_ vs args f).tick).1.over = false := by simpa using ho
      rw [bind_on (by rw [inner]; exact ho), bind_on ho, inner]; rfl
  unfold mrun
  rw [key]
  generalize (mean ((20, 1) :: (23, 0) :: (C ++ (A ++ B))) 0 (begin_ vs args f)).1 = z
  have hz : (z.late 1).stop 3 0 = (z.stop 3 0).late 1 := by
    unfold St.stop
    rw [late_over]
    split <;> rfl
  rw [hz]
  exact ⟨rfl, rfl, rfl, rfl⟩
end Go.Proofs.Ytodejloonfkkmaa.Mach
