/-
  The document's example, plain: Block 1, Return, Int 1: five mutants.
-/
import Derived.Test.YtofhgaioidfdmaaGreatSitesPlain
import Derived.Test.YtofhgaioidfdmaaGreatKindsG
set_option linter.unusedVariables false
namespace Go.Proofs.YtofhgaioidfdmaaGreat.Sites
open _root_.Go.Proofs.YtofhgaioidfdmaaGreat.Arena _root_.Go.Proofs.YtofhgaioidfdmaaGreat.Delta _root_.Go.Proofs.YtofhgaioidfdmaaGreat.Path _root_.Go.Proofs.YtofhgaioidfdmaaGreat.Cat _root_.Go.Proofs.YtofhgaioidfdmaaGreat.Kinds

def E3 : List Nd := [(20, 1), (25, 0), (1, 1)]
def F3 : List Nd := [(20, 1), (25, 0), (1, 0)]
def M5 : List Mt := [([0], 5, 0), ([0], 7, 0), ([0, 0], 4, -1), ([0, 0], 4, 0), ([0, 0], 4, 2)]
theorem e3s0 : scan 1 (E3.drop 0) = some 3 := by simp [E3, scan_cons, scan_0, ar, asks]
theorem e3s1 : scan 1 (E3.drop 1) = some 2 := by simp [E3, scan_cons, scan_0, ar, asks]
theorem e3s2 : scan 1 (E3.drop 2) = some 1 := by simp [E3, scan_cons, scan_0, ar]
theorem e3e0 : aend E3 0 = 3 := aend_some (a := 0) e3s0
theorem e3e1 : aend E3 1 = 3 := aend_some (a := 1) e3s1
theorem e3w : Whole E3 := e3e0
theorem e3k0 : akids E3 0 = [1] := by
  unfold akids
  rw [if_neg (by rw [e3e0]; omega), show (ar (E3.getD (0 : Int).toNat (0, 0))).toNat = 1 from by simp [E3, ar, asks], kidsFrom, kidsFrom]
  rfl
theorem e3k1 : akids E3 1 = [2] := by
  unfold akids
  rw [if_neg (by rw [e3e1]; omega), show (ar (E3.getD (1 : Int).toNat (0, 0))).toNat = 1 from by simp [E3, ar, asks], kidsFrom, kidsFrom]
  rfl
theorem e3p0 : Leads E3 0 [] := ⟨e3w, by omega, rfl⟩
theorem e3p1 : Leads E3 1 [0] := ⟨e3w, by omega, by rw [show ([0] : List Int) = ((0 : Nat) : Int) :: [] from rfl, down_go (q := 1) (by rw [e3k0]; rfl)]; rfl⟩
theorem e3p2 : Leads E3 2 [0, 0] := ⟨e3w, by omega, by
  rw [show ([0, 0] : List Int) = ((0 : Nat) : Int) :: ((0 : Nat) : Int) :: [] from rfl, down_go (q := 1) (by rw [e3k0]; rfl), down_go (q := 2) (by rw [e3k1]; rfl)]; rfl⟩
theorem e3c0 : chs E3 0 = [] := by
  have h := chs_some (l := E3) (a := 0) e3s0
  rw [show ((0 : Nat) : Int) = 0 from rfl] at h
  rw [h]
  symm
  refine choices_one (by decide) (by simp [Row]) (fun op n => ?_)
  rw [show nodeAt E3 0 = (20, 1) from rfl, show behind E3 0 = (25, 0) from rfl]
  unfold cis
  simp
theorem e3c1 : chs E3 1 = [(5, 0), (7, 0)] := by
  have h := chs_some (l := E3) (a := 1) e3s1
  rw [show ((1 : Nat) : Int) = 1 from rfl] at h
  rw [h]
  symm
  refine choices_one (by decide) (by simp [Row, Lt]) (fun op n => ?_)
  rw [show nodeAt E3 1 = (25, 0) from rfl, show behind E3 1 = (1, 1) from rfl]
  unfold cis
  by_cases h5 : op = 5
  · subst h5
    simp
  · by_cases h7 : op = 7
    · subst h7
      simp
      omega
    · simp [h5, h7]
theorem rnd_2 : rnd 2 = 2 := by unfold rnd; rw [IntKind.wrap_i64]; omega
theorem rnd_0 : rnd 0 = 0 := by unfold rnd; rw [IntKind.wrap_i64]; omega
theorem e3c2 : chs E3 2 = [(4, -1), (4, 0), (4, 2)] := by
  have h := chs_some (l := E3) (a := 2) e3s2
  rw [show ((2 : Nat) : Int) = 2 from rfl] at h
  rw [h]
  symm
  refine choices_one (by decide) (by simp [Row, Lt]) (fun op n => ?_)
  rw [show nodeAt E3 2 = (1, 1) from rfl]
  unfold cis
  simp only [show ((1 : Int) + 1) = 2 from rfl, show ((1 : Int) - 1) = 0 from rfl, rnd_2, rnd_0]
  by_cases h4 : op = 4
  · subst h4
    simp
    omega
  · simp [h4]
theorem msites3 : msites E3 = M5 := by
  unfold msites
  rw [show E3.length = 3 from rfl, mupto_succ, mupto_succ, mupto_succ]
  unfold mat
  rw [show ((0 : Nat) : Int) = 0 from rfl, show ((1 : Nat) : Int) = 1 from rfl, show ((2 : Nat) : Int) = 2 from rfl, e3c0, e3c1, e3c2, ppath_leads e3p1, ppath_leads e3p2]
  rfl
theorem e3f1 : pfind E3 [0] = 1 := find_leads.2 e3p1
theorem e3f0 : pfind E3 [] = 0 := find_leads.2 e3p0
theorem e3e2 : aend E3 2 = 3 := aend_some (a := 2) e3s2
theorem e3n : anew E3 [0] 7 0 = F3 := by
  have h0 : dch E3 1 7 0 = swap E3 2 (aend E3 ((1 + 1 : Nat) : Int)).toNat [(1, 0)] := by unfold dch; simp
  unfold anew
  rw [e3f1, show (1 : Int).toNat = 1 from rfl, h0, show ((1 + 1 : Nat) : Int) = 2 from rfl, e3e2]
  decide
theorem e3scan : scan 1 E3 = some E3.length := by have := e3s0; rw [List.drop_zero] at this; exact this
theorem okind3 : okind [] E3 0 = 2 := by
  have h : okind [] E3 0 = ((fold (kd []) E3).headD (-1, 0)).1 := by unfold okind val; rw [whole_part e3scan]
  rw [h]; decide +kernel
theorem acheck33 : acheck E3 = 0 := by
  have hd : adep E3 0 = 3 := by
    have := stk_whole (l := E3) (k := 0) (n := E3.length) e3scan
    rw [List.drop_zero, List.take_length, show stk E3 = [3] by decide +kernel] at this
    simpa using this.symm
  unfold acheck
  rw [e3e0, hd]
  decide +kernel
theorem pcheck33 : pcheck 0 [] E3 = 0 := by unfold pcheck; rw [acheck33, okind3]; decide +kernel
theorem pcheck00 : pcheck 0 [] [] = 10 := by unfold pcheck acheck; simp
theorem m5_rise : MRise M5 := by rw [← msites3]; exact sites_rise e3w
theorem e3l0 : isv E3 0 5 0 = false := by
  have h := isv_some (l := E3) (a := 0) e3s0 5 0
  rw [show ((0 : Nat) : Int) = 0 from rfl] at h
  rw [h]
  decide
theorem e3l1 : isv E3 1 7 0 = true := by
  have h := isv_some (l := E3) (a := 1) e3s1 7 0
  rw [show ((1 : Nat) : Int) = 1 from rfl] at h
  rw [h]
  decide
/-- Where the fourth stands; that nothing stands at the root by no operator. -/
theorem find3 {k : Int} (h : FindOk M5 ([0, 0], 4, 0) k) : k = 3 := by
  obtain ⟨h1, h2, h3, h4⟩ := h
  by_cases q : k = -1
  · exact absurd (by simp [M5]) (h4 m5_rise q)
  · obtain ⟨i, rfl⟩ := Int.eq_ofNat_of_zero_le (show 0 ≤ k by omega)
    have h := h3 i rfl
    have hi : i < 5 := by simp [M5] at h2; omega
    have : i = 0 ∨ i = 1 ∨ i = 2 ∨ i = 3 ∨ i = 4 := by omega
    rcases this with rfl | rfl | rfl | rfl | rfl <;> simp [M5] at h ⊢
theorem find_1 {k : Int} (h : FindOk M5 ([], 0, 0) k) : k = -1 := by
  obtain ⟨h1, h2, h3, h4⟩ := h
  by_cases q : k = -1
  · exact q
  · obtain ⟨i, rfl⟩ := Int.eq_ofNat_of_zero_le (show 0 ≤ k by omega)
    have h := List.mem_of_getElem? (h3 i rfl)
    simp [M5] at h

end Go.Proofs.YtofhgaioidfdmaaGreat.Sites
