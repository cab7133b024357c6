/-
  A condition that is turned, in a program that may be run (plain).
-/
import Derived.Test.YtodejloonfkkmaaDirTurn
set_option linter.unusedVariables false
namespace Go.Proofs.Ytodejloonfkkmaa.Mach
open _root_.Go.Proofs.Ytodejloonfkkmaa.Arena _root_.Go.Proofs.Ytodejloonfkkmaa.Kinds

section
variable {C A B : List Nd} (hC : scan 1 C = some C.length) (hA : scan 1 A = some A.length) (hB : scan 1 B = some B.length)
include hC in
theorem scan_app (Z : List Nd) : scan 1 (C ++ Z) = some C.length := by
  have := scan_prefix C 1 C.length Z hC
  rwa [List.take_of_length_le (Nat.le_refl _)] at this
theorem apart_app {l X Z : List Nd} {k : Nat} (hX : scan 1 X = some X.length) (e : l.drop k = X ++ Z) : aend l (k : Int) = ((k + X.length : Nat) : Int) ∧ apart l (k : Int) = X := by
  have hs : scan 1 (l.drop k) = some X.length := by rw [e]; exact scan_app hX Z
  have ha := aend_some (l := l) (a := k) hs
  refine ⟨by rw [ha]; omega, ?_⟩
  unfold apart
  rw [ha, if_neg (by omega), Int.toNat_natCast, e]
  rw [show ((k : Int) + (X.length : Int)).toNat - k = X.length by omega, List.take_left]
include hC hA hB in
theorem three_parts : akids ((20, 1) :: (23, 0) :: (C ++ (A ++ B))) 1 = [2, 2 + (C.length : Int), 2 + (C.length : Int) + (A.length : Int)] ∧ apart ((20, 1) :: (23, 0) :: (C ++ (A ++ B))) 2 = C ∧
    apart ((20, 1) :: (23, 0) :: (C ++ (A ++ B))) (2 + (C.length : Int)) = A ∧ apart ((20, 1) :: (23, 0) :: (C ++ (A ++ B))) (2 + (C.length : Int) + (A.length : Int)) = B := by
  have h3 : ar (23, 0) = 3 := by decide
  obtain ⟨c1, c2⟩ := apart_app (l := (20, 1) :: (23, 0) :: (C ++ (A ++ B))) (k := 2) hC (Z := A ++ B) rfl
  obtain ⟨a1, a2⟩ := apart_app (l := (20, 1) :: (23, 0) :: (C ++ (A ++ B))) (k := 2 + C.length) hA (Z := B) (by
    show ((20, 1) :: (23, 0) :: (C ++ (A ++ B))).drop (2 + C.length) = _
    rw [Nat.add_comm 2]
    show (C ++ (A ++ B)).drop C.length = _
    rw [List.drop_left])
  obtain ⟨b1, b2⟩ := apart_app (l := (20, 1) :: (23, 0) :: (C ++ (A ++ B))) (k := 2 + C.length + A.length) hB (Z := []) (by
    rw [show 2 + C.length + A.length = (C.length + A.length) + 2 by omega]
    show (C ++ (A ++ B)).drop (C.length + A.length) = _
    rw [← List.drop_drop, List.drop_left, List.drop_left, List.append_nil])
  have e1 : ((2 : Nat) : Int) = 2 := rfl
  have e2 : ((2 + C.length : Nat) : Int) = 2 + (C.length : Int) := by omega
  have e3 : ((2 + C.length + A.length : Nat) : Int) = 2 + (C.length : Int) + (A.length : Int) := by omega
  rw [e1] at c1 c2
  rw [e2] at a1 a2 c1
  rw [e3] at b1 b2 a1
  refine ⟨?_, c2, a2, b2⟩
  have hs : scan 1 (((20, 1) :: (23, 0) :: (C ++ (A ++ B))).drop 1) = some (1 + (C.length + (A.length + B.length))) := by
    show scan (0 + 1) ((23, 0) :: (C ++ (A ++ B))) = _
    rw [scan_good (by rw [h3]; decide), h3]
    show Option.map _ (scan (1 + (1 + 1)) (C ++ (A ++ B))) = _
    rw [scan_add, scan_app hC]
    simp only [Option.bind_some, List.drop_left]
    rw [scan_add, scan_app hA]
    simp only [Option.bind_some, List.drop_left]
    rw [hB]
    show some (C.length + (A.length + B.length) + 1) = some _
    congr 1; omega
  have ha := aend_some (l := (20, 1) :: (23, 0) :: (C ++ (A ++ B))) (a := 1) hs
  unfold akids
  rw [show ((1 : Nat) : Int) = 1 from rfl] at ha
  rw [ha, if_neg (by omega)]
  show kidsFrom _ (ar (23, 0)).toNat 2 = _
  rw [h3]
  show [2, aend _ 2, aend _ (aend _ 2)] = _
  rw [c1, a1]
end
theorem rule_blk {vs : List Int} {y : Int × Int} (h : rule vs (20, 1) [y] = 2) : y.1 = 2 := by
  unfold rule ifso alltwo at h
  simp at h
  exact h
theorem rule_blk' {vs : List Int} {y : Int × Int} (h : y.1 = 2) : (kd vs (20, 1) [y]).1 = 2 := by
  show rule vs (20, 1) [y] = 2
  unfold rule ifso alltwo
  simp [h]
theorem rule_if {vs : List Int} {c a b : Int × Int} (h : (kd vs (23, 0) [c, a, b]).1 = 2) : c.1 = 1 ∧ a.1 = 2 ∧ b.1 = 2 ∧ a.2 = 20 ∧ b.2 = 20 := by
  have h : rule vs (23, 0) [c, a, b] = 2 := h
  unfold rule ifso blks at h
  simp at h
  refine ⟨?_, ?_, ?_, ?_, ?_⟩ <;> omega
theorem rule_if' {vs : List Int} {c a b : Int × Int} (h : c.1 = 1 ∧ a.1 = 2 ∧ b.1 = 2 ∧ a.2 = 20 ∧ b.2 = 20) : (kd vs (23, 0) [kd vs (6, 0) [c], b, a]).1 = 2 := by
  obtain ⟨h1, h2, h3, h4, h5⟩ := h
  have e6 : (kd vs (6, 0) [c]).1 = 1 := by
    show rule vs (6, 0) [c] = 1
    unfold rule ifso
    simp [h1]
  show rule vs (23, 0) [kd vs (6, 0) [c], b, a] = 2
  unfold rule ifso blks
  simp [e6, h2, h3, h4, h5]
/-- THE PROGRAM THAT IS TURNED. -/
theorem turned {ps : Int} {vs args : List Int} {f N : Int} {r : List Nd} (h : MRight ps vs ((20, 1) :: (23, N) :: r) args.length f) (h2 : 2 ≤ f) (hf : f ≤ 9999) :
    ∃ C A B, N = 0 ∧ r = C ++ (A ++ B) ∧ scan 1 C = some C.length ∧ scan 1 A = some A.length ∧ scan 1 B = some B.length ∧ MRight ps vs ((20, 1) :: (23, 0) :: (6, 0) :: (C ++ (B ++ A))) args.length (f + 1) ∧
      (mrun vs ((20, 1) :: (23, 0) :: (C ++ (A ++ B))) args f.toNat).kind = (mrun vs ((20, 1) :: (23, 0) :: (6, 0) :: (C ++ (B ++ A))) args (f + 1).toNat).kind ∧
      (mrun vs ((20, 1) :: (23, 0) :: (C ++ (A ++ B))) args f.toNat).value = (mrun vs ((20, 1) :: (23, 0) :: (6, 0) :: (C ++ (B ++ A))) args (f + 1).toNat).value ∧
      (mrun vs ((20, 1) :: (23, 0) :: (6, 0) :: (C ++ (B ++ A))) args (f + 1).toNat).steps = (mrun vs ((20, 1) :: (23, 0) :: (C ++ (A ++ B))) args f.toNat).steps + 1 ∧
      (mrun vs ((20, 1) :: (23, 0) :: (C ++ (A ++ B))) args f.toNat).ev = (mrun vs ((20, 1) :: (23, 0) :: (6, 0) :: (C ++ (B ++ A))) args (f + 1).toNat).ev := by
  obtain ⟨rfl, C, A, B, rfl, hC, hA, hB⟩ := turn_parts h.whole
  have h3 : ar (23, 0) = 3 := by decide
  have hw' := turn_scan h3 hC hA hB
  obtain ⟨c, a, b, -, -, -, ec, ea, eb, v1, v2⟩ := turn_val (kd vs) (-1, 0) (N := 0) h3 hC hA hB h.whole hw'
  have hk : okind vs ((20, 1) :: (23, 0) :: (C ++ (A ++ B))) 0 = 2 := h.kind
  have hrule : rule vs (20, 1) [kd vs (23, 0) [c, a, b]] = 2 := by
    unfold okind at hk
    rw [v1] at hk
    exact hk
  have hone := rule_if (rule_blk hrule)
  have hk' : okind vs ((20, 1) :: (23, 0) :: (6, 0) :: (C ++ (B ++ A))) 0 = 2 := by
    unfold okind
    rw [v2]
    exact rule_blk' (rule_if' hone)
  refine ⟨C, A, B, rfl, rfl, hC, hA, hB, ⟨h.vars, hw', rfl, hk', h.args, by have := h.f0; omega, by omega⟩, ?_⟩
  have hs2 : scan 1 (((20, 1) :: (23, 0) :: (C ++ (A ++ B))).drop 2) = some C.length := scan_app hC (A ++ B)
  have hc2 : okind vs ((20, 1) :: (23, 0) :: (C ++ (A ++ B))) 2 = 1 := by
    unfold okind val
    rw [(three_parts hC hA hB).2.1, ec]
    exact hone.1
  rw [show (f + 1).toNat = f.toNat + 1 by omega]
  refine run_turned vs args f.toNat (by omega) hC hA hB h.whole (fun s hs ho c' ec' ho' => ?_) (h.begin rfl _)
  have hm : mean ((20, 1) :: (23, 0) :: (C ++ (A ++ B))) 2 = c' := by
    unfold mean val
    rw [(three_parts hC hA hB).2.1, ec']; rfl
  have hsd := sound_mean h.all _ 2 _ (Nat.le_refl _) hs2
  rw [show ((2 : Nat) : Int) = 2 from rfl, hc2, hm] at hsd
  exact (hsd s hs ho).2 ho' rfl
end Go.Proofs.Ytodejloonfkkmaa.Mach
