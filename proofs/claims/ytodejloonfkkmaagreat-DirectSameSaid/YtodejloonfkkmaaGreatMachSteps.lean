/-
  What a program does, told by a stack of nodes that were entered, turn by turn (plain): it comes to what each node means. No program is met here.
-/
import Derived.Test.YtodejloonfkkmaaGreatMachG
set_option linter.unusedVariables false
namespace Go.Proofs.YtodejloonfkkmaaGreat.Mach
open _root_.Go.Proofs.YtodejloonfkkmaaGreat.Arena _root_.Go.Proofs.YtodejloonfkkmaaGreat.Kinds

/-- A node that was entered: its place, the place of its next kid, how many kids are owed, what the last two told; is it a While whose second kid was entered? -/
structure Fr where
  x : Nd
  pos : Nat
  next : Nat
  owed : Nat
  fst : Int
  lst : Int
  ag : Bool
def owedN (x : Nd) : Nat := if x.1 = 18 ∨ x.1 = 19 ∨ x.1 = 23 ∨ x.1 = 24 then 1 else (ar x).toNat
/-- A state, and a stack. -/
abbrev Cfg := St × List Fr
def tellS (v : Int) : List Fr → List Fr
  | [] => []
  | f :: S => { f with fst := f.lst, lst := v } :: S
def tellC (v : Int) (c : Cfg) : Cfg := (c.1, tellS v c.2)
def frame0 (l : List Nd) (k : Nat) : Fr := ⟨l.getD k (0, 0), k, k + 1, owedN (l.getD k (0, 0)), 0, 0, false⟩
def enterC (l : List Nd) (k : Nat) (c : Cfg) : Cfg := if c.1.fuel = 0 then (c.1.stop 4 0, c.2) else (c.1.tick, frame0 l k :: c.2)
def behind (l : List Nd) (k : Nat) : Nat := (aend l k).toNat
/-- What a node does whose kids have told a and b, without entering another one. -/
def doM (x : Nd) (a b : Int) : Sem :=
  if x.1 = 1 ∨ x.1 = 2 then pureM x.2
  else if x.1 = 3 then getV x.2
  else if x.1 = 4 then getA x.2 b
  else if x.1 = 5 then pureM (IntKind.i64.wrap (0 - b))
  else if x.1 = 6 then pureM (IntKind.i64.wrap (1 - b))
  else if x.1 = 20 ∨ x.1 = 26 then pureM 0
  else if x.1 = 21 then setV x.2 b
  else if x.1 = 22 then setA x.2 a b
  else if x.1 = 25 then stopM 0 b
  else bin x.1 a b
def semC (m : Sem) (c : Cfg) : Cfg := if (m c.1).1.over = true then ((m c.1).1, c.2) else tellC (m c.1).2 ((m c.1).1, c.2)
def doC (l : List Nd) (f : Fr) (c : Cfg) : Cfg :=
  if f.ag = true then enterC l f.pos c
  else if f.x.1 = 18 then (if f.lst = 0 then tellC 0 c else enterC l f.next c)
  else if f.x.1 = 19 then (if f.lst = 1 then tellC 1 c else enterC l f.next c)
  else if f.x.1 = 23 then (if f.lst = 1 then enterC l f.next c else enterC l (behind l f.next) c)
  else if f.x.1 = 24 then (if f.lst = 0 then tellC 0 c else (c.1, { f with owed := 1, ag := true } :: c.2))
  else semC (doM f.x f.fst f.lst) c
/-- A turn. -/
def stepC (l : List Nd) (c : Cfg) : Cfg :=
  match c.2 with
  | [] => (c.1.stop 3 0, [])
  | f :: S => if f.owed = 0 then doC l f (c.1, S) else enterC l f.next (c.1, { f with owed := f.owed - 1, next := behind l f.next } :: S)

def IsNode (l : List Nd) (k : Nat) : Prop := ∃ n, scan 1 (l.drop k) = some n
theorem IsNode.get {l : List Nd} {k : Nat} (h : IsNode l k) : ∃ x, l[k]? = some x ∧ 0 ≤ ar x ∧ 1 ≤ x.1 ∧ x.1 ≤ 26 ∧ k < l.length ∧ l.getD k (0, 0) = x := by
  obtain ⟨n, h⟩ := h
  obtain ⟨x, hx, h0, -, -⟩ := mean_kids h
  obtain ⟨-, b1, b2⟩ := ar_rng h0
  refine ⟨x, hx, h0, b1, b2, (List.getElem?_eq_some_iff.1 hx).1, ?_⟩
  rw [List.getD_eq_getElem?_getD, hx]; rfl
theorem IsNode.behind {l : List Nd} {k : Nat} (h : IsNode l k) : ((behind l k : Nat) : Int) = aend l k := by
  obtain ⟨n, h⟩ := h
  unfold Mach.behind
  rw [aend_some h]; omega
/-- What is asked for what a node does. -/
structure SafeDo (l : List Nd) (f : Fr) (s : St) : Prop where
  ag : f.ag = true → IsNode l f.pos
  next : f.ag = false → f.x.1 = 18 ∨ f.x.1 = 19 ∨ f.x.1 = 23 → IsNode l f.next
  next2 : f.ag = false → f.x.1 = 23 → IsNode l (behind l f.next)
  v : f.ag = false → f.x.1 = 3 ∨ f.x.1 = 21 → 0 ≤ f.x.2 ∧ f.x.2 < s.vals.length
  a : f.ag = false → f.x.1 = 4 ∨ f.x.1 = 22 → 0 ≤ f.x.2 ∧ f.x.2 < s.arrs.length
def SafeS (l : List Nd) (s : St) : List Fr → Prop
  | [] => True
  | f :: _ => 1 ≤ f.x.1 ∧ f.x.1 ≤ 26 ∧ (f.owed = 0 → SafeDo l f s) ∧ (f.owed ≠ 0 → IsNode l f.next)
def Safe (l : List Nd) (c : Cfg) : Prop := c.1.over = false ∧ SafeS l c.1 c.2
/-- So many turns, each of them safe. -/
def Reach (l : List Nd) : Nat → Cfg → Cfg → Prop
  | 0, c, c' => c = c'
  | n + 1, c, c' => Safe l c ∧ Reach l n (stepC l c) c'
/-- It comes to a result. -/
def End (l : List Nd) (c : Cfg) (r : St × Int) (S : List Fr) : Prop := ∃ n c', Reach l n c c' ∧ c'.1 = r.1 ∧ (r.1.over = false → c' = tellC r.2 (r.1, S))
section
variable {l : List Nd} {r R : St × Int} {S : List Fr} {s : St} {c : Cfg}
theorem End.step (h : Safe l c) (k : End l (stepC l c) r S) : End l c r S := by
  obtain ⟨n, c', h1, h2, h3⟩ := k
  exact ⟨n + 1, c', ⟨h, h1⟩, h2, h3⟩
theorem Reach.trans : ∀ {n m : Nat} {c c' c'' : Cfg}, Reach l n c c' → Reach l m c' c'' → Reach l (n + m) c c''
  | 0, m, c, c', c'', h, k => by
    have h : c = c' := h
    rw [Nat.zero_add, h]; exact k
  | n + 1, m, c, c', c'', h, k => by
    rw [show n + 1 + m = n + m + 1 by omega]
    exact ⟨h.1, Reach.trans h.2 k⟩
theorem End.over (h : c.1 = r.1) (ho : r.1.over = true) : End l c r S := ⟨0, c, rfl, h, fun z => by rw [ho] at z; cases z⟩
theorem End.told : End l (tellC r.2 (r.1, S)) r S := ⟨0, _, rfl, rfl, fun _ => rfl⟩
theorem step_owed {f : Fr} {j a : Nat} (hf : f.owed = j + 1) (hn : f.next = a) : stepC l (s, f :: S) = enterC l a (s, { f with owed := j, next := behind l a } :: S) := by
  subst hn
  unfold stepC
  simp only
  rw [if_neg (by omega), hf]; rfl
theorem step_do {f : Fr} (hf : f.owed = 0) : stepC l (s, f :: S) = doC l f (s, S) := by
  unfold stepC
  simp only
  rw [if_pos hf]
/-- A kid, and what is told behind it. -/
theorem End.kid {f : Fr} {j a : Nat} (hf : f.owed = j + 1) (hn : f.next = a) (ha : IsNode l a) (ht : 1 ≤ f.x.1 ∧ f.x.1 ≤ 26) (ho : s.over = false) (H : ∀ S, End l (enterC l a (s, S)) r S)
    (h1 : r.1.over = true → R.1 = r.1) (h2 : r.1.over = false → End l (r.1, { f with owed := j, next := behind l a, fst := f.lst, lst := r.2 } :: S) R S) : End l (s, f :: S) R S := by
  refine End.step ⟨ho, ht.1, ht.2, fun z => by omega, fun _ => by rw [hn]; exact ha⟩ ?_
  rw [step_owed hf hn]
  obtain ⟨n, c', a1, a2, a3⟩ := H ({ f with owed := j, next := behind l a } :: S)
  by_cases hr : r.1.over = true
  · exact ⟨n, c', a1, by rw [h1 hr]; exact a2, fun z => by rw [h1 hr, hr] at z; cases z⟩
  · have hr : r.1.over = false := by simpa using hr
    obtain ⟨m, c'', b1, b2, b3⟩ := h2 hr
    have a3 := a3 hr
    subst a3
    exact ⟨n + m, c'', a1.trans b1, b2, b3⟩
/-- What a node does by itself. -/
theorem End.sem {f : Fr} (hf : f.owed = 0) (hg : f.ag = false) (n18 : f.x.1 ≠ 18) (n19 : f.x.1 ≠ 19) (n23 : f.x.1 ≠ 23) (n24 : f.x.1 ≠ 24) (hs : Safe l (s, f :: S)) (e : R = doM f.x f.fst f.lst s) : End l (s, f :: S) R S := by
  subst e
  refine End.step hs ?_
  rw [step_do hf]
  unfold doC
  rw [if_neg (by rw [hg]; decide), if_neg n18, if_neg n19, if_neg n23, if_neg n24]
  unfold semC
  split
  · exact End.over rfl (by assumption)
  · exact End.told

theorem kid_first {c a m : Nat} (h : scan (c + 1) (l.drop a) = some m) : IsNode l a ∧ (∃ m', scan c (l.drop (behind l a)) = some m') ∧ kidsFrom l (c + 1) a = (a : Int) :: kidsFrom l c (behind l a : Nat) := by
  rw [Nat.add_comm, scan_add] at h
  cases h1 : scan 1 (l.drop a) with
  | none => rw [h1] at h; cases h
  | some n1 =>
    rw [h1] at h
    simp only [Option.bind_some, Option.map_eq_some_iff, List.drop_drop] at h
    obtain ⟨m2, h2, rfl⟩ := h
    have hb : behind l a = a + n1 := by unfold behind; rw [aend_some h1]; omega
    exact ⟨⟨n1, h1⟩, ⟨m2, by rw [hb]; exact h2⟩, by rw [kidsFrom, aend_some h1, hb]; rfl⟩
theorem node_scan {k n : Nat} (h : scan 1 (l.drop k) = some n) {x : Nd} (hx : l[k]? = some x) : (∃ m, scan (ar x).toNat (l.drop (k + 1)) = some m) ∧ akids l k = kidsFrom l (ar x).toNat ((k + 1 : Nat) : Int) := by
  have hd : l.drop k = x :: l.drop (k + 1) := by
    have hl := (List.getElem?_eq_some_iff.1 hx)
    obtain ⟨hl, e⟩ := hl
    rw [← e]; exact List.drop_eq_getElem_cons hl
  have h0 : 0 ≤ aend l k := by rw [aend_some h]; omega
  obtain ⟨x', hx', h0', -⟩ := mean_kids h
  obtain rfl : x = x' := by rw [hx] at hx'; exact Option.some.inj hx'
  rw [hd, scan_good h0', Nat.zero_add] at h
  obtain ⟨m, hm, -⟩ := Option.map_eq_some_iff.1 h
  refine ⟨⟨m, hm⟩, ?_⟩
  unfold akids
  rw [if_neg (by omega), Int.toNat_natCast, List.getD_eq_getElem?_getD, hx]; rfl
end

section
variable {vs : List Int} {l : List Nd}
/-- A state that may be entered. -/
structure On (vs : List Int) (F : Nat) (s : St) : Prop where
  fuel : s.fuel < F
  over : s.over = false
  wt : WT vs s
def Ih (vs : List Int) (l : List Nd) (F : Nat) : Prop := ∀ (k n : Nat) (s : St) (S : List Fr), scan 1 (l.drop k) = some n → On vs F s → End l (enterC l k (s, S)) (mean l k s) S
theorem On.kid {F : Nat} {s : St} (h : On vs F s) (hall : ∀ k n : Nat, scan 1 (l.drop k) = some n → 0 ≤ okind vs l k) {k : Nat} (hk : IsNode l k) (ho : (mean l k s).1.over = false) : On vs F (mean l k s).1 ∧ Of1 (okind vs l k) (mean l k s).2 := by
  obtain ⟨n, hk⟩ := hk
  obtain ⟨a1, a2⟩ := sound_mean hall _ k n (Nat.le_refl _) hk s h.wt h.over
  exact ⟨⟨Nat.lt_of_le_of_lt (mean_fuel h.over _ _) h.fuel, ho, a1⟩, a2 ho⟩
theorem Ih.at {F : Nat} (ih : Ih vs l F) {k : Nat} {s : St} (hk : IsNode l k) (h : On vs F s) : ∀ S, End l (enterC l k (s, S)) (mean l k s) S := fun S => by
  obtain ⟨n, hk⟩ := hk
  exact ih k n s S hk h
/-- A block's kids, one after another. -/
theorem End.block {F : Nat} (ih : Ih vs l F) (hall : ∀ k n : Nat, scan 1 (l.drop k) = some n → 0 ≤ okind vs l k) {x : Nd} (hx : x.1 = 20) {k : Nat} {S : List Fr} : ∀ (c a m : Nat) (s : St) (fst lst : Int), scan c (l.drop a) = some m → On vs F s →
    End l (s, ⟨x, k, a, c, fst, lst, false⟩ :: S) (seqM ((kidsFrom l c a).map (mean l)) s) S
  | 0, a, m, s, fst, lst, h, hs => by
    refine End.sem rfl rfl (by simp only; omega) (by simp only; omega) (by simp only; omega) (by simp only; omega) ⟨hs.over, by simp only; omega, by simp only; omega, fun _ => ⟨fun z => (by simp only at z; cases z), fun _ z => by simp only at z; omega, fun _ z => by simp only at z; omega, fun _ z => by simp only at z; omega, fun _ z => by simp only at z; omega⟩, fun z => absurd rfl z⟩ ?_
    show pureM 0 s = _
    unfold doM
    simp only
    rw [if_neg (by omega), if_neg (by omega), if_neg (by omega), if_neg (by omega), if_neg (by omega), if_pos (by omega)]
  | c + 1, a, m, s, fst, lst, h, hs => by
    obtain ⟨hn, ⟨m', hm'⟩, hk⟩ := kid_first h
    rw [hk, List.map_cons]
    refine End.kid (f := ⟨x, k, a, c + 1, fst, lst, false⟩) (j := c) rfl rfl hn ⟨by simp only; omega, by simp only; omega⟩ hs.over (ih.at hn hs) (fun ho => ?_) fun ho => ?_
    · show (bindM _ _ s).1 = _
      rw [bind_over ho]
    · obtain ⟨h1, -⟩ := hs.kid hall hn ho
      show End l _ (bindM _ _ s) S
      rw [bind_on ho]
      exact End.block ih hall hx c _ m' _ lst _ hm' h1

/-- EVERY NODE, ENTERED, COMES TO WHAT IT MEANS. -/
theorem node_comes (hall : ∀ k n : Nat, scan 1 (l.drop k) = some n → 0 ≤ okind vs l k) (F : Nat) : Ih vs l F := by
  induction F with
  | zero => intro k n s S h hs; exact absurd hs.fuel (by omega)
  | succ F ih =>
    intro k n s S h hs
    have ho := hs.over
    obtain ⟨t, N, hx, hm, hl, hc⟩ := typed_cases h (hall k n h)
    have hnk : ∀ m ∈ (akids l k).map (mean l), Nice m := fun m hm => by
      obtain ⟨q, -, rfl⟩ := List.mem_map.1 hm
      exact nice_mean _ _
    by_cases h0 : s.fuel = 0
    · rw [hm, node_out hnk ho h0]
      unfold enterC
      simp only
      rw [if_pos h0, stop_no ho]
      exact End.over rfl rfl
    have hT : On vs F s.tick := ⟨by show s.fuel - 1 < F; have := hs.fuel; omega, ho, hs.wt.tick⟩
    have hE : enterC l k (s, S) = (s.tick, ⟨(t, N), k, k + 1, owedN (t, N), 0, 0, false⟩ :: S) := by
      unfold enterC frame0
      simp only
      rw [if_neg h0, List.getD_eq_getElem?_getD, hx]; rfl
    obtain ⟨⟨m0, hsc⟩, hkf⟩ := node_scan h hx
    rw [hkf, kids_len] at hl
    unfold Cases at hc
    rw [hkf] at hc hm hnk
    rw [hE]
    clear hE
    generalize hA : (ar (t, N)).toNat = A at hsc hkf hm hc hl hnk
    have ow1 : ¬ (t = 18 ∨ t = 19 ∨ t = 23 ∨ t = 24) → owedN (t, N) = A := fun z => by unfold owedN; simp only; rw [if_neg z, hA]
    have ow2 : (t = 18 ∨ t = 19 ∨ t = 23 ∨ t = 24) → owedN (t, N) = 1 := fun z => by unfold owedN; simp only; rw [if_pos z]
    have safe0 : ∀ (f : Fr) (s' : St), f.owed = 0 → s'.over = false → f.x = (t, N) → f.ag = false → t ≠ 18 → t ≠ 19 → t ≠ 23 → 1 ≤ t → t ≤ 26 → (t = 3 ∨ t = 21 → 0 ≤ N ∧ N < s'.vals.length) → (t = 4 ∨ t = 22 → 0 ≤ N ∧ N < s'.arrs.length) → Safe l (s', f :: S) := by
      intro f s' g1 g2 g3 g4 g5 g6 g7 g8 g9 g10 g11
      refine ⟨g2, by rw [g3]; exact g8, by rw [g3]; exact g9, fun _ => ⟨fun z => (by rw [g4] at z; cases z), fun _ z => ?_, fun _ z => ?_, fun _ z => ?_, fun _ z => ?_⟩, fun z => absurd g1 z⟩
      · rw [g3] at z; simp only at z; omega
      · rw [g3] at z; simp only at z; omega
      · rw [g3] at z ⊢; exact g10 z
      · rw [g3] at z ⊢; exact g11 z
    have k1 : A = 1 → IsNode l (k + 1) ∧ kidsFrom l A ((k + 1 : Nat) : Int) = [((k + 1 : Nat) : Int)] := fun e => by
      subst e
      obtain ⟨a1, -, a3⟩ := kid_first hsc
      exact ⟨a1, a3⟩
    have k2 : A = 2 → IsNode l (k + 1) ∧ IsNode l (behind l (k + 1)) ∧ kidsFrom l A ((k + 1 : Nat) : Int) = [((k + 1 : Nat) : Int), ((behind l (k + 1) : Nat) : Int)] := fun e => by
      subst e
      obtain ⟨a1, ⟨m1, a2⟩, a3⟩ := kid_first hsc
      obtain ⟨b1, -, b3⟩ := kid_first a2
      exact ⟨a1, b1, by rw [a3, b3]; rfl⟩
    have k3 : A = 3 → IsNode l (k + 1) ∧ IsNode l (behind l (k + 1)) ∧ IsNode l (behind l (behind l (k + 1))) ∧ kidsFrom l A ((k + 1 : Nat) : Int) = [((k + 1 : Nat) : Int), ((behind l (k + 1) : Nat) : Int), ((behind l (behind l (k + 1)) : Nat) : Int)] := fun e => by
      subst e
      obtain ⟨a1, ⟨m1, a2⟩, a3⟩ := kid_first hsc
      obtain ⟨b1, ⟨m2, b2⟩, b3⟩ := kid_first a2
      obtain ⟨c1, -, c3⟩ := kid_first b2
      exact ⟨a1, b1, c1, by rw [a3, b3, c3]; rfl⟩
    have len1 : ∀ q : Int, kidsFrom l A ((k + 1 : Nat) : Int) = [q] → A = 1 := fun q e => by have := kids_len l A ((k + 1 : Nat) : Int); rw [e] at this; exact this.symm
    have len2 : ∀ q q2 : Int, kidsFrom l A ((k + 1 : Nat) : Int) = [q, q2] → A = 2 := fun q q2 e => by have := kids_len l A ((k + 1 : Nat) : Int); rw [e] at this; exact this.symm
    have len3 : ∀ q q2 q3 : Int, kidsFrom l A ((k + 1 : Nat) : Int) = [q, q2, q3] → A = 3 := fun q q2 q3 e => by have := kids_len l A ((k + 1 : Nat) : Int); rw [e] at this; exact this.symm
    have har : ar (t, N) = if t = 1 then 0 else if N < 0 ∨ (asks t N).2 < N then -1 else (asks t N).1 := rfl
    have h0a : 0 ≤ ar (t, N) := by
      obtain ⟨x', hx', z, -⟩ := mean_kids h
      obtain rfl : (t, N) = x' := by rw [hx] at hx'; exact Option.some.inj hx'
      exact z
    have leaf : t = 1 ∨ t = 2 ∨ t = 3 ∨ t = 26 → A = 0 := fun z => by
      rw [har] at hA
      unfold asks at hA
      rcases z with rfl | rfl | rfl | rfl <;> simp at hA
      · exact hA.symm
      all_goals (split at hA <;> omega)
    have nt : ∀ c v : Int, t = c → t ≠ v ∨ c = v := fun c v e => by omega
    rcases hc with ht | ⟨ht, hv⟩ | ht | ht | ⟨ht, hv, q, hq⟩ | ⟨ht, q, hq⟩ | ⟨ht1, ht2, q, q2, hq⟩ | ⟨ht, q, q2, hq⟩ | ⟨ht, q, q2, hq⟩ | ⟨ht, hv, q, hq⟩ | ⟨ht, hv, q, q2, hq⟩ | ⟨ht, q, q2, q3, hq, hk1⟩ | ⟨ht, q, q2, hq, hk1⟩ | ⟨ht, q, hq⟩
    -- a number
    · refine End.sem (by show owedN (t, N) = 0; rw [ow1 (by omega), leaf (by omega)]) rfl (by show t ≠ 18; omega) (by show t ≠ 19; omega) (by show t ≠ 23; omega) (by show t ≠ 24; omega) (safe0 _ _ (by show owedN (t, N) = 0; rw [ow1 (by omega), leaf (by omega)]) ho rfl rfl (by omega) (by omega) (by omega) (by omega) (by omega) (fun z => by omega) (fun z => by omega)) ?_
      rw [hm, node_on (by omega) ho h0]
      unfold innerM doM
      simp only
      rw [if_pos ht, if_pos ht]
    -- a variable
    · have hvt : 0 ≤ vtyp vs N := by omega
      obtain ⟨v1, v2, -⟩ := vtyp_nat hvt
      have hnv := hs.wt.nv
      refine End.sem (by show owedN (t, N) = 0; rw [ow1 (by omega), leaf (by omega)]) rfl (by show t ≠ 18; omega) (by show t ≠ 19; omega) (by show t ≠ 23; omega) (by show t ≠ 24; omega) (safe0 _ _ (by show owedN (t, N) = 0; rw [ow1 (by omega), leaf (by omega)]) ho rfl rfl (by omega) (by omega) (by omega) (by omega) (by omega) (fun z => ⟨v1, by show N < s.vals.length; omega⟩) (fun z => by omega)) ?_
      rw [hm, node_on (by omega) ho h0]
      unfold innerM doM
      simp only
      rw [if_neg (by omega), if_pos ht, if_neg (by omega), if_pos ht]
    -- nothing
    · refine End.sem (by show owedN (t, N) = 0; rw [ow1 (by omega), leaf (by omega)]) rfl (by show t ≠ 18; omega) (by show t ≠ 19; omega) (by show t ≠ 23; omega) (by show t ≠ 24; omega) (safe0 _ _ (by show owedN (t, N) = 0; rw [ow1 (by omega), leaf (by omega)]) ho rfl rfl (by omega) (by omega) (by omega) (by omega) (by omega) (fun z => by omega) (fun z => by omega)) ?_
      rw [hm, node_on (by omega) ho h0]
      unfold innerM doM
      simp only
      rw [if_neg (by omega), if_neg (by omega), if_pos ht, if_neg (by omega), if_neg (by omega), if_neg (by omega), if_neg (by omega), if_neg (by omega), if_pos (by omega)]
    -- a block
    · rw [hm, node_on (by omega) ho h0, ow1 (by omega)]
      unfold innerM
      simp only
      rw [if_neg (by omega), if_neg (by omega), if_neg (by omega), if_pos ht]
      exact End.block ih hall (x := (t, N)) ht A (k + 1) m0 s.tick 0 0 hsc hT
    -- a place of an array
    · obtain ⟨a1, a2⟩ := k1 (len1 _ hq)
      have hvt : 0 ≤ vtyp vs N := by unfold asz at hv; split at hv <;> omega
      obtain ⟨v1, v2, -⟩ := vtyp_nat hvt
      rw [hm, node_on (by omega) ho h0, a2, List.map_cons, List.map_nil, inner_kid (by omega) (by omega) (by omega) (by omega) (by omega)]
      refine End.kid (j := 0) (by show owedN (t, N) = 1; rw [ow1 (by omega), len1 _ hq]) rfl a1 ⟨by show 1 ≤ t; omega, by show t ≤ 26; omega⟩ hT.over (ih.at a1 hT) (fun hv => by rw [bind_over hv]) fun hv => ?_
      obtain ⟨o1, -⟩ := hT.kid hall a1 hv
      have hna : (mean l ((k + 1 : Nat) : Int) s.tick).1.arrs.length = vs.length := o1.wt.na
      have hNN : N < (((mean l ((k + 1 : Nat) : Int) s.tick).1.arrs.length : Nat) : Int) := by omega
      rw [bind_on hv]
      refine End.sem rfl rfl (by show t ≠ 18; omega) (by show t ≠ 19; omega) (by show t ≠ 23; omega) (by show t ≠ 24; omega) (safe0 _ _ rfl hv rfl rfl (by omega) (by omega) (by omega) (by omega) (by omega) (fun z => by omega) (fun z => ⟨v1, hNN⟩)) ?_
      subst ht; rfl
    -- of one number
    · obtain ⟨a1, a2⟩ := k1 (len1 _ hq)
      rw [hm, node_on (by omega) ho h0, a2, List.map_cons, List.map_nil, inner_kid (by omega) (by omega) (by omega) (by omega) (by omega)]
      refine End.kid (j := 0) (by show owedN (t, N) = 1; rw [ow1 (by omega), len1 _ hq]) rfl a1 ⟨by show 1 ≤ t; omega, by show t ≤ 26; omega⟩ hT.over (ih.at a1 hT) (fun hv => by rw [bind_over hv]) fun hv => ?_
      obtain ⟨o1, -⟩ := hT.kid hall a1 hv
      rw [bind_on hv]
      refine End.sem rfl rfl (by show t ≠ 18; omega) (by show t ≠ 19; omega) (by show t ≠ 23; omega) (by show t ≠ 24; omega) (safe0 _ _ rfl hv rfl rfl (by omega) (by omega) (by omega) (by omega) (by omega) (fun z => by omega) (fun z => by omega)) ?_
      rcases ht with ht | ht <;> (subst ht; rfl)
    -- of two numbers
    · obtain ⟨a1, a2, a3⟩ := k2 (len2 _ _ hq)
      rw [hm, node_on (by omega) ho h0, a3, List.map_cons, List.map_cons, List.map_nil, inner_kid (by omega) (by omega) (by omega) (by omega) (by omega)]
      refine End.kid (j := 1) (by show owedN (t, N) = 2; rw [ow1 (by omega), len2 _ _ hq]) rfl a1 ⟨by show 1 ≤ t; omega, by show t ≤ 26; omega⟩ hT.over (ih.at a1 hT) (fun hv => by rw [bind_over hv]) fun hv => ?_
      obtain ⟨o1, -⟩ := hT.kid hall a1 hv
      rw [bind_on hv, behind_two (by omega) (by omega) (by omega) (by omega) (by omega) (by omega) (by omega) (by omega)]
      refine End.kid (j := 0) rfl rfl a2 ⟨by show 1 ≤ t; omega, by show t ≤ 26; omega⟩ hv (ih.at a2 o1) (fun hv => by rw [bind_over hv]) fun hv2 => ?_
      rw [bind_on hv2]
      refine End.sem rfl rfl (by show t ≠ 18; omega) (by show t ≠ 19; omega) (by show t ≠ 23; omega) (by show t ≠ 24; omega) (safe0 _ _ rfl hv2 rfl rfl (by omega) (by omega) (by omega) (by omega) (by omega) (fun z => by omega) (fun z => by omega)) ?_
      unfold doM
      simp only
      rw [if_neg (by omega), if_neg (by omega), if_neg (by omega), if_neg (by omega), if_neg (by omega), if_neg (by omega), if_neg (by omega), if_neg (by omega), if_neg (by omega), if_neg (by omega)]
    -- And
    · obtain ⟨a1, a2, a3⟩ := k2 (len2 _ _ hq)
      rw [hm, node_on (by omega) ho h0, a3, List.map_cons, List.map_cons, List.map_nil, inner_kid (by omega) (by omega) (by omega) (by omega) (by omega)]
      refine End.kid (j := 0) (by show owedN (t, N) = 1; exact ow2 (by omega)) rfl a1 ⟨by show 1 ≤ t; omega, by show t ≤ 26; omega⟩ hT.over (ih.at a1 hT) (fun hv => by rw [bind_over hv]) fun hv => ?_
      obtain ⟨o1, -⟩ := hT.kid hall a1 hv
      rw [bind_on hv]
      refine End.step ⟨hv, by show 1 ≤ t; omega, by show t ≤ 26; omega, fun _ => ⟨fun z => (by cases z), fun _ _ => a2, fun _ z => by have z : t = 23 := z; omega, fun _ z => by have z : t = 3 ∨ t = 21 := z; omega, fun _ z => by have z : t = 4 ∨ t = 22 := z; omega⟩, fun z => absurd rfl z⟩ ?_
      rw [step_do rfl]
      subst ht
      by_cases hz : (mean l ((k + 1 : Nat) : Int) s.tick).2 = 0
      · have e1 : behindM (18, N) [mean l ((k + 1 : Nat) : Int), mean l ((behind l (k + 1) : Nat) : Int)] (mean l ((k + 1 : Nat) : Int) s.tick).2 = pureM 0 := by unfold behindM; simp only; rw [if_neg (by decide), if_neg (by decide), if_neg (by decide), if_pos trivial, if_pos hz]
        rw [e1]
        unfold doC
        simp only
        rw [if_neg (by decide), if_pos trivial, if_pos hz]
        exact End.told (r := (_, 0))
      · have e1 : behindM (18, N) [mean l ((k + 1 : Nat) : Int), mean l ((behind l (k + 1) : Nat) : Int)] (mean l ((k + 1 : Nat) : Int) s.tick).2 = mean l ((behind l (k + 1) : Nat) : Int) := by unfold behindM; simp only; rw [if_neg (by decide), if_neg (by decide), if_neg (by decide), if_pos trivial, if_neg hz]; rfl
        rw [e1]
        unfold doC
        simp only
        rw [if_neg (by decide), if_pos trivial, if_neg hz]
        exact ih.at a2 o1 S
    -- Or
    · obtain ⟨a1, a2, a3⟩ := k2 (len2 _ _ hq)
      rw [hm, node_on (by omega) ho h0, a3, List.map_cons, List.map_cons, List.map_nil, inner_kid (by omega) (by omega) (by omega) (by omega) (by omega)]
      refine End.kid (j := 0) (by show owedN (t, N) = 1; exact ow2 (by omega)) rfl a1 ⟨by show 1 ≤ t; omega, by show t ≤ 26; omega⟩ hT.over (ih.at a1 hT) (fun hv => by rw [bind_over hv]) fun hv => ?_
      obtain ⟨o1, -⟩ := hT.kid hall a1 hv
      rw [bind_on hv]
      refine End.step ⟨hv, by show 1 ≤ t; omega, by show t ≤ 26; omega, fun _ => ⟨fun z => (by cases z), fun _ _ => a2, fun _ z => by have z : t = 23 := z; omega, fun _ z => by have z : t = 3 ∨ t = 21 := z; omega, fun _ z => by have z : t = 4 ∨ t = 22 := z; omega⟩, fun z => absurd rfl z⟩ ?_
      rw [step_do rfl]
      subst ht
      by_cases hz : (mean l ((k + 1 : Nat) : Int) s.tick).2 = 1
      · have e1 : behindM (19, N) [mean l ((k + 1 : Nat) : Int), mean l ((behind l (k + 1) : Nat) : Int)] (mean l ((k + 1 : Nat) : Int) s.tick).2 = pureM 1 := by unfold behindM; simp only; rw [if_neg (by decide), if_neg (by decide), if_neg (by decide), if_neg (by decide), if_pos trivial, if_pos hz]
        rw [e1]
        unfold doC
        simp only
        rw [if_neg (by decide), if_neg (by decide), if_pos trivial, if_pos hz]
        exact End.told (r := (_, 1))
      · have e1 : behindM (19, N) [mean l ((k + 1 : Nat) : Int), mean l ((behind l (k + 1) : Nat) : Int)] (mean l ((k + 1 : Nat) : Int) s.tick).2 = mean l ((behind l (k + 1) : Nat) : Int) := by unfold behindM; simp only; rw [if_neg (by decide), if_neg (by decide), if_neg (by decide), if_neg (by decide), if_pos trivial, if_neg hz]; rfl
        rw [e1]
        unfold doC
        simp only
        rw [if_neg (by decide), if_neg (by decide), if_pos trivial, if_neg hz]
        exact ih.at a2 o1 S
    -- a variable is set
    · obtain ⟨a1, a2⟩ := k1 (len1 _ hq)
      have hvt : 0 ≤ vtyp vs N := by omega
      obtain ⟨v1, v2, -⟩ := vtyp_nat hvt
      rw [hm, node_on (by omega) ho h0, a2, List.map_cons, List.map_nil, inner_kid (by omega) (by omega) (by omega) (by omega) (by omega)]
      refine End.kid (j := 0) (by show owedN (t, N) = 1; rw [ow1 (by omega), len1 _ hq]) rfl a1 ⟨by show 1 ≤ t; omega, by show t ≤ 26; omega⟩ hT.over (ih.at a1 hT) (fun hv => by rw [bind_over hv]) fun hv => ?_
      obtain ⟨o1, -⟩ := hT.kid hall a1 hv
      have hnv : (mean l ((k + 1 : Nat) : Int) s.tick).1.vals.length = vs.length := o1.wt.nv
      have hNN : N < (((mean l ((k + 1 : Nat) : Int) s.tick).1.vals.length : Nat) : Int) := by omega
      rw [bind_on hv]
      refine End.sem rfl rfl (by show t ≠ 18; omega) (by show t ≠ 19; omega) (by show t ≠ 23; omega) (by show t ≠ 24; omega) (safe0 _ _ rfl hv rfl rfl (by omega) (by omega) (by omega) (by omega) (by omega) (fun z => ⟨v1, hNN⟩) (fun z => by omega)) ?_
      subst ht; rfl
    -- a place is put
    · obtain ⟨a1, a2, a3⟩ := k2 (len2 _ _ hq)
      have hvt : 0 ≤ vtyp vs N := by unfold asz at hv; split at hv <;> omega
      obtain ⟨v1, v2, -⟩ := vtyp_nat hvt
      rw [hm, node_on (by omega) ho h0, a3, List.map_cons, List.map_cons, List.map_nil, inner_kid (by omega) (by omega) (by omega) (by omega) (by omega)]
      refine End.kid (j := 1) (by show owedN (t, N) = 2; rw [ow1 (by omega), len2 _ _ hq]) rfl a1 ⟨by show 1 ≤ t; omega, by show t ≤ 26; omega⟩ hT.over (ih.at a1 hT) (fun hv => by rw [bind_over hv]) fun hv => ?_
      obtain ⟨o1, -⟩ := hT.kid hall a1 hv
      rw [bind_on hv, behind_two (by omega) (by omega) (by omega) (by omega) (by omega) (by omega) (by omega) (by omega)]
      refine End.kid (j := 0) rfl rfl a2 ⟨by show 1 ≤ t; omega, by show t ≤ 26; omega⟩ hv (ih.at a2 o1) (fun hv => by rw [bind_over hv]) fun hv2 => ?_
      obtain ⟨o2, -⟩ := o1.kid hall a2 hv2
      have hna : (mean l ((behind l (k + 1) : Nat) : Int) (mean l ((k + 1 : Nat) : Int) s.tick).1).1.arrs.length = vs.length := o2.wt.na
      have hNN : N < (((mean l ((behind l (k + 1) : Nat) : Int) (mean l ((k + 1 : Nat) : Int) s.tick).1).1.arrs.length : Nat) : Int) := by omega
      rw [bind_on hv2]
      refine End.sem rfl rfl (by show t ≠ 18; omega) (by show t ≠ 19; omega) (by show t ≠ 23; omega) (by show t ≠ 24; omega) (safe0 _ _ rfl hv2 rfl rfl (by omega) (by omega) (by omega) (by omega) (by omega) (fun z => by omega) (fun z => ⟨v1, hNN⟩)) ?_
      subst ht; rfl
    -- If
    · obtain ⟨a1, a2, a3, a4⟩ := k3 (len3 _ _ _ hq)
      rw [hm, node_on (by omega) ho h0, a4, List.map_cons, List.map_cons, List.map_cons, List.map_nil, inner_kid (by omega) (by omega) (by omega) (by omega) (by omega)]
      refine End.kid (j := 0) (by show owedN (t, N) = 1; exact ow2 (by omega)) rfl a1 ⟨by show 1 ≤ t; omega, by show t ≤ 26; omega⟩ hT.over (ih.at a1 hT) (fun hv => by rw [bind_over hv]) fun hv => ?_
      obtain ⟨o1, -⟩ := hT.kid hall a1 hv
      rw [bind_on hv]
      refine End.step ⟨hv, by show 1 ≤ t; omega, by show t ≤ 26; omega, fun _ => ⟨fun z => (by cases z), fun _ _ => a2, fun _ z => a3, fun _ z => by have z : t = 3 ∨ t = 21 := z; omega, fun _ z => by have z : t = 4 ∨ t = 22 := z; omega⟩, fun z => absurd rfl z⟩ ?_
      rw [step_do rfl]
      subst ht
      unfold doC
      simp only
      rw [if_neg (by decide), if_neg (by decide), if_neg (by decide), if_pos trivial]
      by_cases hz : (mean l ((k + 1 : Nat) : Int) s.tick).2 = 1
      · have e1 : behindM (23, N) [mean l ((k + 1 : Nat) : Int), mean l ((behind l (k + 1) : Nat) : Int), mean l ((behind l (behind l (k + 1)) : Nat) : Int)] (mean l ((k + 1 : Nat) : Int) s.tick).2 = mean l ((behind l (k + 1) : Nat) : Int) := by unfold behindM; simp only; rw [if_neg (by decide), if_neg (by decide), if_neg (by decide), if_neg (by decide), if_neg (by decide), if_neg (by decide), if_pos trivial, if_pos hz]; rfl
        rw [e1, if_pos hz]
        exact ih.at a2 o1 S
      · have e1 : behindM (23, N) [mean l ((k + 1 : Nat) : Int), mean l ((behind l (k + 1) : Nat) : Int), mean l ((behind l (behind l (k + 1)) : Nat) : Int)] (mean l ((k + 1 : Nat) : Int) s.tick).2 = mean l ((behind l (behind l (k + 1)) : Nat) : Int) := by unfold behindM; simp only; rw [if_neg (by decide), if_neg (by decide), if_neg (by decide), if_neg (by decide), if_neg (by decide), if_neg (by decide), if_pos trivial, if_neg hz]; rfl
        rw [e1, if_neg hz]
        exact ih.at a3 o1 S
    -- While
    · obtain ⟨a1, a2, a3⟩ := k2 (len2 _ _ hq)
      have hq1 : okind vs l ((k + 1 : Nat) : Int) = 1 := by
        rw [a3] at hq
        have e := (List.cons.inj hq).1
        rw [e]; exact hk1
      have hmk : mean l k = whileM (mean l ((k + 1 : Nat) : Int)) (mean l ((behind l (k + 1) : Nat) : Int)) := by
        rw [hm, a3]
        unfold nodeM
        rw [if_pos ht]; rfl
      have hmw : mean l k s = bindM (mean l ((k + 1 : Nat) : Int)) (fun a => if a = 1 then bindM (mean l ((behind l (k + 1) : Nat) : Int)) (fun _ => mean l k) else pureM 0) s.tick := by
        rw [hmk, while_is (nice_mean _ _) (nice_mean _ _), enter_on ho h0]
      rw [hmw]
      refine End.kid (j := 0) (by show owedN (t, N) = 1; exact ow2 (by omega)) rfl a1 ⟨by show 1 ≤ t; omega, by show t ≤ 26; omega⟩ hT.over (ih.at a1 hT) (fun hv => by rw [bind_over hv]) fun hv => ?_
      obtain ⟨o1, hof⟩ := hT.kid hall a1 hv
      have hof := hof hq1
      rw [bind_on hv]
      refine End.step ⟨hv, by show 1 ≤ t; omega, by show t ≤ 26; omega, fun _ => ⟨fun z => (by cases z), fun _ z => by have z : t = 18 ∨ t = 19 ∨ t = 23 := z; omega, fun _ z => by have z : t = 23 := z; omega, fun _ z => by have z : t = 3 ∨ t = 21 := z; omega, fun _ z => by have z : t = 4 ∨ t = 22 := z; omega⟩, fun z => absurd rfl z⟩ ?_
      rw [step_do rfl]
      unfold doC
      simp only
      rw [if_neg (by decide), if_neg (by omega), if_neg (by omega), if_neg (by omega), if_pos ht]
      by_cases hz : (mean l ((k + 1 : Nat) : Int) s.tick).2 = 0
      · rw [if_pos hz, if_neg (by omega)]
        exact End.told (r := (_, 0))
      rw [if_neg hz, if_pos (by omega)]
      refine End.kid (j := 0) rfl rfl a2 ⟨by show 1 ≤ t; omega, by show t ≤ 26; omega⟩ hv (ih.at a2 o1) (fun hv => by rw [bind_over hv]) fun hv2 => ?_
      obtain ⟨o2, -⟩ := o1.kid hall a2 hv2
      rw [bind_on hv2]
      refine End.step ⟨hv2, by show 1 ≤ t; omega, by show t ≤ 26; omega, fun _ => ⟨fun _ => ⟨n, h⟩, fun z => (by cases z), fun z => (by cases z), fun z => (by cases z), fun z => (by cases z)⟩, fun z => absurd rfl z⟩ ?_
      rw [step_do rfl]
      unfold doC
      simp only
      rw [if_pos trivial]
      exact ih.at ⟨n, h⟩ o2 S
    -- Return
    · obtain ⟨a1, a2⟩ := k1 (len1 _ hq)
      rw [hm, node_on (by omega) ho h0, a2, List.map_cons, List.map_nil, inner_kid (by omega) (by omega) (by omega) (by omega) (by omega)]
      refine End.kid (j := 0) (by show owedN (t, N) = 1; rw [ow1 (by omega), len1 _ hq]) rfl a1 ⟨by show 1 ≤ t; omega, by show t ≤ 26; omega⟩ hT.over (ih.at a1 hT) (fun hv => by rw [bind_over hv]) fun hv => ?_
      obtain ⟨o1, -⟩ := hT.kid hall a1 hv
      rw [bind_on hv]
      refine End.sem rfl rfl (by show t ≠ 18; omega) (by show t ≠ 19; omega) (by show t ≠ 23; omega) (by show t ≠ 24; omega) (safe0 _ _ rfl hv rfl rfl (by omega) (by omega) (by omega) (by omega) (by omega) (fun z => by omega) (fun z => by omega)) ?_
      subst ht; rfl
/-- THE TURNS OF A RUN COME TO WHAT THE PROGRAM DOES. -/
theorem run_comes {ps : Int} {args : List Int} {f : Int} (h : MRight ps vs l args.length f) : ∃ n c', Reach l n (enterC l 0 (begin_ vs args f.toNat, [])) c' ∧ c'.1 = mrun vs l args f.toNat ∧ c'.1.over = true := by
  have hn : IsNode l 0 := ⟨_, by rw [List.drop_zero]; exact h.whole⟩
  obtain ⟨n, c', h1, h2, h3⟩ := (node_comes h.all (f.toNat + 1)).at hn (s := begin_ vs args f.toNat) ⟨by show f.toNat < f.toNat + 1; omega, rfl, h.begin rfl _⟩ []
  by_cases ho : (mean l 0 (begin_ vs args f.toNat)).1.over = true
  · refine ⟨n, c', h1, ?_, by rw [h2]; exact ho⟩
    rw [h2]
    unfold mrun St.stop
    rw [if_pos ho]; rfl
  · have ho : (mean l 0 (begin_ vs args f.toNat)).1.over = false := by simpa using ho
    have e := h3 ho
    subst e
    refine ⟨n + 1, _, h1.trans ⟨⟨ho, trivial⟩, rfl⟩, rfl, ?_⟩
    show (St.stop _ 3 0).over = true
    exact stop_over _ _ _
end
section
variable {l : List Nd}
/-- No more nodes are on the stack, and no more events stored, than nodes were entered. -/
structure Sized (F : Nat) (c : Cfg) : Prop where
  few : c.1.ev.length + c.2.length ≤ c.1.steps
  sum : c.1.steps + c.1.fuel = F
theorem sized_stop {F : Nat} {s : St} {S : List Fr} (h : Sized F (s, S)) (k v : Int) : Sized F (s.stop k v, S) := by
  obtain ⟨h1, h2, h3⟩ := stop_steps s k v
  refine ⟨?_, ?_⟩
  · have := h.few; show (s.stop k v).ev.length + S.length ≤ (s.stop k v).steps; rw [h1, h2]; exact this
  · have := h.sum; show (s.stop k v).steps + (s.stop k v).fuel = F; rw [h1, h3]; exact this
theorem tellS_len (v : Int) : ∀ S : List Fr, (tellS v S).length = S.length
  | [] => rfl
  | f :: S => rfl
theorem sized_tell {F : Nat} {c : Cfg} (h : Sized F c) (v : Int) : Sized F (tellC v c) := ⟨by have := h.few; show c.1.ev.length + (tellS v c.2).length ≤ _; rw [tellS_len]; exact this, h.sum⟩
theorem sized_enter {F : Nat} {c : Cfg} (h : Sized F c) (k : Nat) : Sized F (enterC l k c) := by
  unfold enterC
  split
  · exact sized_stop h 4 0
  · refine ⟨?_, ?_⟩
    · have := h.few; show c.1.ev.length + (c.2.length + 1) ≤ c.1.steps + 1; omega
    · have := h.sum; show c.1.steps + 1 + (c.1.fuel - 1) = F; omega
/-- One event more at the most, and no step. -/
def Slight (s : St) (m : Sem) : Prop := (m s).1.ev.length ≤ s.ev.length + 1 ∧ (m s).1.steps = s.steps ∧ (m s).1.fuel = s.fuel
theorem slight_stop (s : St) (k v : Int) : (s.stop k v).ev.length ≤ s.ev.length + 1 ∧ (s.stop k v).steps = s.steps ∧ (s.stop k v).fuel = s.fuel := by
  obtain ⟨h1, h2, h3⟩ := stop_steps s k v
  rw [h1, h2, h3]; exact ⟨by omega, rfl, rfl⟩
theorem slight_pure (s : St) (v : Int) : Slight s (pureM v) := ⟨Nat.le_succ _, rfl, rfl⟩
theorem slight_stopM (s : St) (k v : Int) : Slight s (stopM k v) := slight_stop s k v
theorem slight_getV (s : St) (i : Int) : Slight s (getV i) := ⟨Nat.le_succ _, rfl, rfl⟩
theorem slight_getA (s : St) (i a : Int) : Slight s (getA i a) := by
  unfold Slight getA
  by_cases q : a < 0 ∨ ((arr s i).length : Int) ≤ a
  · rw [if_pos q]; exact slight_stop s 2 0
  · rw [if_neg q]; exact ⟨Nat.le_succ _, rfl, rfl⟩
theorem slight_setA (s : St) (i a b : Int) : Slight s (setA i a b) := by
  unfold Slight setA
  by_cases q : a < 0 ∨ ((arr s i).length : Int) ≤ a
  · rw [if_pos q]; exact slight_stop s 2 0
  · rw [if_neg q]; exact ⟨by simp, rfl, rfl⟩
theorem slight_setV (s : St) (i a : Int) : Slight s (setV i a) := ⟨by unfold setV; simp, rfl, rfl⟩
theorem slight_if {s : St} {c : Prop} [Decidable c] {m n : Sem} (h1 : Slight s m) (h2 : Slight s n) : Slight s (if c then m else n) := by
  by_cases q : c
  · rw [if_pos q]; exact h1
  · rw [if_neg q]; exact h2
theorem slight_do (s : St) (x : Nd) (a b : Int) : Slight s (doM x a b) := by
  unfold doM bin
  repeat' apply slight_if
  all_goals first
    | exact slight_pure _ _
    | exact slight_stopM _ _ _
    | exact slight_getV _ _
    | exact slight_getA _ _ _
    | exact slight_setV _ _ _
    | exact slight_setA _ _ _ _
theorem sized_sem {F : Nat} {s : St} {S : List Fr} (x : Nd) (a b : Int) (h : s.ev.length + S.length + 1 ≤ s.steps) (hF : s.steps + s.fuel = F) : Sized F (semC (doM x a b) (s, S)) := by
  obtain ⟨k1, k2, k3⟩ := slight_do s x a b
  unfold semC
  simp only
  split
  · exact ⟨by show (doM x a b s).1.ev.length + S.length ≤ (doM x a b s).1.steps; rw [k2]; omega, by show (doM x a b s).1.steps + (doM x a b s).1.fuel = F; rw [k2, k3]; exact hF⟩
  · exact sized_tell (c := ((doM x a b s).1, S)) ⟨by show (doM x a b s).1.ev.length + S.length ≤ (doM x a b s).1.steps; rw [k2]; omega, by show (doM x a b s).1.steps + (doM x a b s).1.fuel = F; rw [k2, k3]; exact hF⟩ _
theorem sized_step {F : Nat} {c : Cfg} (h : Sized F c) : Sized F (stepC l c) := by
  obtain ⟨s, S⟩ := c
  cases S with
  | nil => exact sized_stop h 3 0
  | cons f S =>
    have h1 : s.ev.length + (S.length + 1) ≤ s.steps := h.few
    have h2 : s.steps + s.fuel = F := h.sum
    have h0 : Sized F (s, S) := ⟨by show s.ev.length + S.length ≤ s.steps; omega, h2⟩
    unfold stepC
    simp only
    split
    · unfold doC
      repeat' split
      all_goals first
        | exact sized_enter h0 _
        | exact sized_tell h0 _
        | exact sized_sem _ _ _ (by omega) h2
        | exact ⟨by show s.ev.length + (S.length + 1) ≤ s.steps; omega, h2⟩
    · exact sized_enter (c := (s, _ :: S)) ⟨by show s.ev.length + (S.length + 1) ≤ s.steps; omega, h2⟩ _
end
end Go.Proofs.YtodejloonfkkmaaGreat.Mach
