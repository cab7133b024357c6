/-
  What a program does, told by a stack of nodes that were entered, turn by turn (plain): it comes to what each node means. No program is met here.
-/
import Derived.Test.YtodejloonfkkmaaMachG
set_option linter.unusedVariables false
namespace Go.Proofs.Ytodejloonfkkmaa.Mach
open _root_.Go.Proofs.Ytodejloonfkkmaa.Arena _root_.Go.Proofs.Ytodejloonfkkmaa.Kinds

/-- A node that was entered: its place, the place of its next kid, how many kids are owed, what the last two told; is it a While whose second kid was entered? -/
structure Fr where
  x : Nd
  pos : Nat
  next : Nat
  owed : Nat
  fst : Int
  lst : Int
  ag : Bool
def owedN (x : Nd) : Nat := if x.1 = 18 ∨ x.1 = 19 ∨ x.1 = 23 ∨ x.1 = 24 then 1 else (ar x).toNat
/-- A state, and a stack. -/
abbrev Cfg := St × List Fr
def tellS (v : Int) : List Fr → List Fr
  | [] => []
  | f :: S => { f with fst := f.lst, lst := v } :: S
def tellC (v : Int) (c : Cfg) : Cfg := (c.1, tellS v c.2)
def frame0 (l : List Nd) (k : Nat) : Fr := ⟨l.getD k (0, 0), k, k + 1, owedN (l.getD k (0, 0)), 0, 0, false⟩
def enterC (l : List Nd) (k : Nat) (c : Cfg) : Cfg := if c.1.fuel = 0 then (c.1.stop 4 0, c.2) else (c.1.tick, frame0 l k :: c.2)
def behind (l : List Nd) (k : Nat) : Nat := (aend l k).toNat
/-- What a node does whose kids have told a and b, without entering another one. -/
def doM (x : Nd) (a b : Int) : Sem :=
  if x.1 = 1 ∨ x.1 = 2 then pureM x.2
  else if x.1 = 3 then getV x.2
  else if x.1 = 4 then getA x.2 b
  else if x.1 = 5 then pureM (IntKind.i64.wrap (0 - b))
  else if x.1 = 6 then pureM (IntKind.i64.wrap (1 - b))
  else if x.1 = 20 ∨ x.1 = 26 then pureM 0
  else if x.1 = 21 then setV x.2 b
  else if x.1 = 22 then setA x.2 a b
  else if x.1 = 25 then stopM 0 b
  else bin x.1 a b
def semC (m : Sem) (c : Cfg) : Cfg := if (m c.1).1.over = true then ((m c.1).1, c.2) else tellC (m c.1).2 ((m c.1).1, c.2)
def doC (l : List Nd) (f : Fr) (c : Cfg) : Cfg :=
  if f.ag = true then enterC l f.pos c
  else if f.x.1 = 18 then (if f.lst = 0 then tellC 0 c else enterC l f.next c)
  else if f.x.1 = 19 then (if f.lst = 1 then tellC 1 c else enterC l f.next c)
  else if f.x.1 = 23 then (if f.lst = 1 then enterC l f.next c else enterC l (behind l f.next) c)
  else if f.x.1 = 24 then (if f.lst = 0 then tellC 0 c else (c.1, { f with owed := 1, ag := true } :: c.2))
  else semC (doM f.x f.fst f.lst) c
/-- A turn. -/
def stepC (l : List Nd) (c : Cfg) : Cfg :=
  match c.2 with
  | [] => (c.1.stop 3 0, [])
  | f :: S => if f.owed = 0 then doC l f (c.1, S) else enterC l f.next (c.1, { f with owed := f.owed - 1, next := behind l f.next } :: S)

def IsNode (l : List Nd) (k : Nat) : Prop := ∃ n, scan 1 (l.drop k) = some n
theorem IsNode.behind {l : List Nd} {k : Nat} (h : IsNode l k) : ((behind l k : Nat) : Int) = aend l k := by
  obtain ⟨n, h⟩ := h
  unfold Mach.behind
  rw [aend_some h]; omega
/-- What is asked for what a node does. -/
structure SafeDo (l : List Nd) (f : Fr) (s : St) : Prop where
  ag : f.ag = true → IsNode l f.pos
  next : f.ag = false → f.x.1 = 18 ∨ f.x.1 = 19 ∨ f.x.1 = 23 → IsNode l f.next
  next2 : f.ag = false → f.x.1 = 23 → IsNode l (behind l f.next)
  v : f.ag = false → f.x.1 = 3 ∨ f.x.1 = 21 → 0 ≤ f.x.2 ∧ f.x.2 < s.vals.length
  a : f.ag = false → f.x.1 = 4 ∨ f.x.1 = 22 → 0 ≤ f.x.2 ∧ f.x.2 < s.arrs.length
def SafeS (l : List Nd) (s : St) : List Fr → Prop
  | [] => True
  | f :: _ => 1 ≤ f.x.1 ∧ f.x.1 ≤ 26 ∧ (f.owed = 0 → SafeDo l f s) ∧ (f.owed ≠ 0 → IsNode l f.next)
def Safe (l : List Nd) (c : Cfg) : Prop := c.1.over = false ∧ SafeS l c.1 c.2
/-- So many turns, each of them safe. -/
def Reach (l : List Nd) : Nat → Cfg → Cfg → Prop
  | 0, c, c' => c = c'
  | n + 1, c, c' => Safe l c ∧ Reach l n (stepC l c) c'
/-- It comes to a result. -/
def End (l : List Nd) (c : Cfg) (r : St × Int) (S : List Fr) : Prop := ∃ n c', Reach l n c c' ∧ c'.1 = r.1 ∧ (r.1.over = false → c' = tellC r.2 (r.1, S))
section
variable {l : List Nd} {r R : St × Int} {S : List Fr} {s : St} {c : Cfg}
theorem End.step (h : Safe l c) (k : End l (stepC l c) r S) : End l c r S := by
  obtain ⟨n, c', h1, h2, h3⟩ := k
  exact ⟨n + 1, c', ⟨h, h1⟩, h2, h3⟩
theorem Reach.trans : ∀ {n m : Nat} {c c' c'' : Cfg}, Reach l n c c' → Reach l m c' c'' → Reach l (n + m) c c''
  | 0, m, c, c', c'', h, k => by
    have h : c = c' := h
    rw [Nat.zero_add, h]; exact k
  | n + 1, m, c, c', c'', h, k => by
    rw [show n + 1 + m = n + m + 1 by omega]
    exact ⟨h.1, Reach.trans h.2 k⟩
theorem End.over (h : c.1 = r.1) (ho : r.1.over = true) : End l c r S := ⟨0, c, rfl, h, fun z => by rw [ho] at z; cases z⟩
theorem End.told : End l (tellC r.2 (r.1, S)) r S := ⟨0, _, rfl, rfl, fun _ => rfl⟩
theorem step_owed {f : Fr} {j a : Nat} (hf : f.owed = j + 1) (hn : f.next = a) : stepC l (s, f :: S) = enterC l a (s, { f with owed := j, next := behind l a } :: S) := by
  subst hn
  unfold stepC
  simp only
  rw [if_neg (by omega), hf]; rfl
theorem step_do {f : Fr} (hf : f.owed = 0) : stepC l (s, f :: S) = doC l f (s, S) := by
  unfold stepC
  simp only
  rw [if_pos hf]
/-- A kid, and what is told behind it. -/
theorem End.kid {f : Fr} {j a : Nat} (hf : f.owed = j + 1) (hn : f.next = a) (ha : IsNode l a) (ht : 1 ≤ f.x.1 ∧ f.x.1 ≤ 26) (ho : s.over = false) (H : ∀ S, End l (enterC l a (s, S)) r S)
    (h1 : r.1.over = true → R.1 = r.1) (h2 : r.1.over = false → End l (r.1, { f with owed := j, next := behind l a, fst := f.lst, lst := r.2 } :: S) R S) : End l (s, f :: S) R S := by
  refine End.step ⟨ho, ht.1, ht.2, fun z => by omega, fun _ => by rw [hn]; exact ha⟩ ?_
  rw [step_owed hf hn]
  obtain ⟨n, c', a1, a2, a3⟩ := H ({ f with owed := j, next := behind l a } :: S)
  by_cases hr : r.1.over = true
  · exact ⟨n, c', a1, by rw [h1 hr]; exact a2, fun z => by rw [h1 hr, hr] at z; cases z⟩
  · have hr : r.1.over = false := by simpa using hr
    obtain ⟨m, c'', b1, b2, b3⟩ := h2 hr
    have a3 := a3 hr
    subst a3
    exact ⟨n + m, c'', a1.trans b1, b2, b3⟩
/-- What a node does by itself. -/
theorem End.sem {f : Fr} (hf : f.owed = 0) (hg : f.ag = false) (n18 : f.x.1 ≠ 18) (n19 : f.x.1 ≠ 19) (n23 : f.x.1 ≠ 23) (n24 : f.x.1 ≠ 24) (hs : Safe l (s, f :: S)) (e : R = doM f.x f.fst f.lst s) : End l (s, f :: S) R S := by
  subst e
  refine End.step hs ?_
  rw [step_do hf]
  unfold doC
  rw [if_neg (by rw [hg]; decide), if_neg n18, if_neg n19, if_neg n23, if_neg n24]
  unfold semC
  split
  · exact End.over rfl (by assumption)
  · exact End.told

theorem kid_first {c a m : Nat} (h : scan (c + 1) (l.drop a) = some m) : IsNode l a ∧ (∃ m', scan c (l.drop (behind l a)) = some m') ∧ kidsFrom l (c + 1) a = (a : Int) :: kidsFrom l c (behind l a : Nat) := by
  rw [Nat.add_comm, scan_add] at h
  cases h1 : scan 1 (l.drop a) with
  | none => rw [h1] at h; cases h
  | some n1 =>
    rw [h1] at h
    simp only [Option.bind_some, Option.map_eq_some_iff, List.drop_drop] at h
    obtain ⟨m2, h2, rfl⟩ := h
    have hb : behind l a = a + n1 := by unfold behind; rw [aend_some h1]; omega
    exact ⟨⟨n1, h1⟩, ⟨m2, by rw [hb]; exact h2⟩, by rw [kidsFrom, aend_some h1, hb]; rfl⟩
end

section
variable {vs : List Int} {l : List Nd}
/-- A state that may be entered. -/
structure On (vs : List Int) (F : Nat) (s : St) : Prop where
  fuel : s.fuel < F
  over : s.over = false
  wt : WT vs s
def Ih (vs : List Int) (l : List Nd) (F : Nat) : Prop := ∀ (k n : Nat) (s : St) (S : List Fr), scan 1 (l.drop k) = some n → On vs F s → End l (enterC l k (s, S)) (mean l k s) S
theorem On.kid {F : Nat} {s : St} (h : On vs F s) (hall : ∀ k n : Nat, scan 1 (l.drop k) = some n → 0 ≤ okind vs l k) {k : Nat} (hk : IsNode l k) (ho : (mean l k s).1.over = false) : On vs F (mean l k s).1 ∧ Of1 (okind vs l k) (mean l k s).2 := by
  obtain ⟨n, hk⟩ := hk
  obtain ⟨a1, a2⟩ := sound_mean hall _ k n (Nat.le_refl _) hk s h.wt h.over
  exact ⟨⟨Nat.lt_of_le_of_lt (mean_fuel h.over _ _) h.fuel, ho, a1⟩, a2 ho⟩
theorem Ih.at {F : Nat} (ih : Ih vs l F) {k : Nat} {s : St} (hk : IsNode l k) (h : On vs F s) : ∀ S, End l (enterC l k (s, S)) (mean l k s) S := fun S => by
  obtain ⟨n, hk⟩ := hk
  exact ih k n s S hk h
/-- A block's kids, one after another. -/
theorem End.block {F : Nat} (ih : Ih vs l F) (hall : ∀ k n : Nat, scan 1 (l.drop k) = some n → 0 ≤ okind vs l k) {x : Nd} (hx : x.1 = 20) {k : Nat} {S : List Fr} : ∀ (c a m : Nat) (s : St) (fst lst : Int), scan c (l.drop a) = some m → On vs F s →
    End l (s, ⟨x, k, a, c, fst, lst, false⟩ :: S) (seqM ((kidsFrom l c a).map (mean l)) s) S
  | 0, a, m, s, fst, lst, h, hs => by
    refine End.sem rfl rfl (by simp only; omega) (by simp only; omega) (by simp only; omega) (by simp only; omega) ⟨hs.over, by simp only; omega, by simp only; omega, fun _ => ⟨fun z => (by simp only at z; cases z), fun _ z => by simp only at z; omega, fun _ z => by simp only at z; omega, fun _ z => by simp only at z; omega, fun _ z => by simp only at z; omega⟩, fun z => absurd rfl z⟩ ?_
    show pureM 0 s = _
    unfold doM
    simp only
    rw [if_neg (by omega), if_neg (by omega), if_neg (by omega), if_neg (by omega), if_neg (by omega), if_pos (by omega)]
  | c + 1, a, m, s, fst, lst, h, hs => by
    obtain ⟨hn, ⟨m', hm'⟩, hk⟩ := kid_first h
    rw [hk, List.map_cons]
    refine End.kid (f := ⟨x, k, a, c + 1, fst, lst, false⟩) (j := c) rfl rfl hn ⟨by simp only; omega, by simp only; omega⟩ hs.over (ih.at hn hs) (fun ho => ?_) fun ho => ?_
    · show (bindM _ _ s).1 = _
      rw [bind_over ho]
    · obtain ⟨h1, -⟩ := hs.kid hall hn ho
      show End l _ (bindM _ _ s) S
      rw [bind_on ho]
      exact End.block ih hall hx c _ m' _ lst _ hm' h1

end
section
variable {l : List Nd}
end
end Go.Proofs.Ytodejloonfkkmaa.Mach
