/-
  Plain facts on containers: what sections are in one, what a text holds, that each is the other's way back, and that bits turned are found out. No program is met here.
-/
import Derived.Test.YtfjdbbhaigjbmaaGreatFrameG
namespace Go.Proofs.YtfjdbbhaigjbmaaGreat.Cont
open Leb Crc _root_.Go.Proofs.YtfjdbbhaigjbmaaGreat.Frame

/-- A section: its type, its data. -/
abbrev Sec := Int × List UInt8
def magic : List UInt8 := [77, 85, 84, 65, 82, 67, 1]
def theEnd : List UInt8 := [69, 78, 68, 46]
def u64 (t : Int) : Nat := (t % 18446744073709551616).toNat
def size (x : Sec) : Nat := (fput x.1 x.2).length
def idx : Nat → List Sec → List UInt8
  | _, [] => []
  | a, x :: l => lput (u64 x.1) ++ lput a ++ lput (size x) ++ idx (a + size x) l
/-- Where sections stand. -/
def index (l : List Sec) : List UInt8 := lput l.length ++ idx 7 l
def body : List Sec → List UInt8
  | [] => []
  | x :: l => fput x.1 x.2 ++ body l
def okType (x : Sec) : Bool := decide (1 ≤ x.1) && decide (x.1 ≤ 255)
def steps : List Sec → Bool
  | [] => true
  | [x] => okType x
  | x :: y :: l => okType x && decide (x.1 < y.1) && steps (y :: l)
/-- May they be sealed? -/
def ord (l : List Sec) : Bool := decide (1 ≤ l.length) && decide (l.length ≤ 16) && steps l
def foot (n : Nat) : List UInt8 := [UInt8.ofNat (n % 256), UInt8.ofNat (n / 256 % 256), UInt8.ofNat (n / 256 / 256 % 256), UInt8.ofNat (n / 256 / 256 / 256 % 256)] ++ theEnd
def num : List UInt8 → Nat
  | [] => 0
  | b :: l => num l * 256 + b.toNat
/-- In one, and what is wrong. -/
def sealC (l : List Sec) : List UInt8 × Int :=
  if ord l = false then ([], 20)
  else if 1048576 < 7 + (body l).length + (index l).length + 12 then ([], 4)
  else (magic ++ body l ++ index l ++ tail (index l) ++ foot (7 + (body l).length), 0)
/-- All that stand up to the end of s, from a on. -/
def gets (s : List UInt8) : Nat → Nat → Option (List Sec)
  | 0, _ => some []
  | k + 1, a => if s.length ≤ a then some [] else if (fget s a).2.2 ≠ 0 then none else (gets s k (fget s a).2.1.toNat).map ((fget s a).1 :: ·)
/-- The sections, and what is wrong. -/
def openC (s : List UInt8) : List Sec × Int :=
  if 1048576 < s.length then ([], 4)
  else if s.length < 15 ∨ s.take 7 ≠ magic ∨ s.drop (s.length - 4) ≠ theEnd then ([], 7)
  else if num ((s.drop (s.length - 8)).take 4) < 7 ∨ s.length - 8 < num ((s.drop (s.length - 8)).take 4) then ([], 9)
  else match gets (s.take (num ((s.drop (s.length - 8)).take 4))) (num ((s.drop (s.length - 8)).take 4)) 7 with
    | none => ([], 8)
    | some l => if ord l = false then ([], 20) else if s.drop (num ((s.drop (s.length - 8)).take 4)) ≠ index l ++ tail (index l) ++ foot (num ((s.drop (s.length - 8)).take 4)) then ([], 9) else (l, 0)

theorem magic_len : magic.length = 7 := rfl
theorem theEnd_len : theEnd.length = 4 := rfl
theorem foot_len (n : Nat) : (foot n).length = 8 := rfl
theorem num_foot {n : Nat} (h : n < 4294967296) : num ((foot n).take 4) = n := by
  show num [UInt8.ofNat (n % 256), UInt8.ofNat (n / 256 % 256), UInt8.ofNat (n / 256 / 256 % 256), UInt8.ofNat (n / 256 / 256 / 256 % 256)] = n
  simp only [num, UInt8.toNat_ofNat']
  omega
theorem foot_end (n : Nat) : (foot n).drop 4 = theEnd := rfl

/-- What may be put in a frame. -/
def Fits (x : Sec) : Prop := 0 ≤ x.1 ∧ x.1 ≤ 255 ∧ x.2.length ≤ 1048576

theorem steps_types : ∀ {l : List Sec}, steps l = true → ∀ x ∈ l, 1 ≤ x.1 ∧ x.1 ≤ 255
  | [], _, x, hx => by cases hx
  | [y], h, x, hx => by
    simp [steps, okType] at h hx
    subst hx; exact h
  | y :: z :: l, h, x, hx => by
    simp only [steps, Bool.and_eq_true] at h
    rcases List.mem_cons.1 hx with rfl | hx
    · have := h.1.1; simp [okType] at this; exact this
    · exact steps_types h.2 x hx
theorem ord_types {l : List Sec} (h : ord l = true) : ∀ x ∈ l, 1 ≤ x.1 ∧ x.1 ≤ 255 := by
  simp only [ord, Bool.and_eq_true] at h
  exact steps_types h.2
theorem ord_pos {l : List Sec} (h : ord l = true) : 1 ≤ l.length ∧ l.length ≤ 16 := by
  simp [ord] at h; exact h.1

theorem body_append : ∀ (a b : List Sec), body (a ++ b) = body a ++ body b
  | [], b => rfl
  | x :: a, b => by rw [List.cons_append, body, body, body_append a b, List.append_assoc]
theorem body_mem : ∀ {l : List Sec} {x : Sec}, x ∈ l → x.2.length ≤ (body l).length
  | y :: l, x, h => by
    rw [body, List.length_append]
    rcases List.mem_cons.1 h with rfl | h
    · have := fput_len x.1 x.2; omega
    · have := body_mem h; omega
theorem size_pos (x : Sec) : 6 ≤ size x := by
  unfold size
  have := fput_len x.1 x.2; have := head_len x.1 x.2; have := lput_pos x.2.length
  omega

/-- ALL THAT STAND THERE ARE GOT. -/
theorem gets_body : ∀ (l : List Sec) (X : List UInt8) (k : Nat), (∀ x ∈ l, Fits x) → (body l).length ≤ k → gets (X ++ body l) k X.length = some l
  | [], X, k, _, _ => by
    cases k with
    | zero => rfl
    | succ k => unfold gets; rw [if_pos (by simp [body])]
  | x :: l, X, k, hf, hk => by
    have hs := size_pos x
    have hx := hf x (by simp)
    rw [body, List.length_append] at hk
    rw [size] at hs
    obtain ⟨k, rfl⟩ : ∃ j, k = j + 1 := ⟨k - 1, by omega⟩
    have hg := fget_back X (body l) x.2 x.1 hx.1 hx.2.1 hx.2.2
    rw [body, gets, ← List.append_assoc, hg, if_neg (by simp; omega), if_neg (by simp)]
    have := gets_body l (X ++ fput x.1 x.2) k (fun y hy => hf y (by simp [hy])) (by omega)
    rw [List.length_append] at this
    rw [show ((X.length : Int) + ((fput x.1 x.2).length : Nat)).toNat = X.length + (fput x.1 x.2).length by omega]
    rw [this]
    rfl

/-- WHAT IS GOT STANDS THERE JUST SO. -/
theorem gets_only : ∀ (k : Nat) (s : List UInt8) (a : Nat) (l : List Sec), a ≤ s.length → s.length - a ≤ k → gets s k a = some l → s.drop a = body l ∧ ∀ x ∈ l, Fits x
  | 0, s, a, l, ha, hk, h => by
    simp only [gets, Option.some.injEq] at h
    subst h
    exact ⟨by rw [List.drop_eq_nil_of_le (by omega)]; rfl, by simp⟩
  | k + 1, s, a, l, ha, hk, h => by
    rw [gets] at h
    by_cases c1 : s.length ≤ a
    · rw [if_pos c1] at h
      simp only [Option.some.injEq] at h
      subst h
      exact ⟨by rw [List.drop_eq_nil_of_le (by omega)]; rfl, by simp⟩
    rw [if_neg c1] at h
    by_cases c2 : (fget s a).2.2 ≠ 0
    · rw [if_pos c2] at h; cases h
    rw [if_neg c2] at h
    have c3 : (fget s a).2.2 = 0 := by simpa using c2
    obtain ⟨g1, g2, g3, g4, g5, g6, g7⟩ := fget_only s a c3
    obtain ⟨⟨⟨t, d⟩, b, c⟩, hr⟩ : ∃ r, fget s a = r := ⟨_, rfl⟩
    rw [hr] at h g2 g3 g4 g5 g6 g7
    simp only at h g2 g3 g4 g5 g6 g7
    obtain ⟨q, rfl⟩ := Int.eq_ofNat_of_zero_le (show 0 ≤ b by omega)
    simp only [Int.toNat_natCast] at h g7
    rw [Option.map_eq_some_iff] at h
    obtain ⟨l', h, rfl⟩ := h
    obtain ⟨i1, i2⟩ := gets_only k s q l' (by omega) (by omega) h
    constructor
    · rw [body, ← i1]
      simp only
      rw [g7, show s.drop q = (s.drop a).drop (q - a) by rw [List.drop_drop]; congr 1; omega, List.take_append_drop]
    · intro x hx
      rcases List.mem_cons.1 hx with rfl | hx
      · exact ⟨g4, g5, g6⟩
      · exact i2 x hx

/-- A frame that is none is found out. -/
theorem gets_bad : ∀ (l : List Sec) (X Y : List UInt8) (k : Nat), (∀ x ∈ l, Fits x) → (body l ++ Y).length ≤ k → Y ≠ [] → (fget (X ++ body l ++ Y) (X ++ body l).length).2.2 ≠ 0 → gets (X ++ body l ++ Y) k X.length = none
  | [], X, Y, k, _, hk, hY, hb => by
    have h1 : 0 < Y.length := List.length_pos_iff.2 hY
    rw [body, List.append_nil] at hb
    rw [body, List.nil_append] at hk
    obtain ⟨k, rfl⟩ : ∃ j, k = j + 1 := ⟨k - 1, by omega⟩
    rw [body, List.append_nil, gets, if_neg (by simp; omega), if_pos hb]
  | x :: l, X, Y, k, hf, hk, hY, hb => by
    have hs := size_pos x
    have hx := hf x (by simp)
    rw [body, List.append_assoc, List.length_append] at hk
    rw [size] at hs
    obtain ⟨k, rfl⟩ : ∃ j, k = j + 1 := ⟨k - 1, by omega⟩
    have hg := fget_back X (body l ++ Y) x.2 x.1 hx.1 hx.2.1 hx.2.2
    have e : X ++ body (x :: l) ++ Y = X ++ fput x.1 x.2 ++ (body l ++ Y) := by rw [body]; simp only [List.append_assoc]
    rw [e, gets, hg, if_neg (by simp; omega), if_neg (by simp)]
    have := gets_bad l (X ++ fput x.1 x.2) Y k (fun y hy => hf y (by simp [hy])) (by omega) hY (by
      rw [show X ++ fput x.1 x.2 ++ body l = X ++ body (x :: l) by rw [body, List.append_assoc]]
      exact hb)
    rw [List.length_append] at this
    rw [show ((X.length : Int) + ((fput x.1 x.2).length : Nat)).toNat = X.length + (fput x.1 x.2).length by omega, ← List.append_assoc (X ++ fput x.1 x.2), this]
    rfl

/-- What Open looks at ahead of the frames, where the text is laid out as it ought to be. -/
theorem open_laid (F I : List UInt8) (hF : F.length + I.length + 15 ≤ 1048576) :
    openC (magic ++ F ++ (I ++ foot (7 + F.length))) = match gets (magic ++ F) (7 + F.length) 7 with
      | none => ([], 8)
      | some l => if ord l = false then ([], 20) else if I ++ foot (7 + F.length) ≠ index l ++ tail (index l) ++ foot (7 + F.length) then ([], 9) else (l, 0) := by
  obtain ⟨s, hs⟩ : ∃ s, magic ++ F ++ (I ++ foot (7 + F.length)) = s := ⟨_, rfl⟩
  have hl : s.length = 7 + F.length + I.length + 8 := by rw [← hs]; simp [magic_len, foot_len]; omega
  have e8 : s.drop (s.length - 8) = foot (7 + F.length) := by
    rw [hl, show 7 + F.length + I.length + 8 - 8 = (magic ++ F ++ I).length by simp [magic_len]; omega, ← hs, ← List.append_assoc]
    exact List.drop_left
  have e4 : s.drop (s.length - 4) = theEnd := by
    rw [show s.length - 4 = s.length - 8 + 4 by omega, ← List.drop_drop, e8, foot_end]
  have en : num ((s.drop (s.length - 8)).take 4) = 7 + F.length := by rw [e8, num_foot (by omega)]
  have e7 : s.take 7 = magic := by rw [← hs, List.append_assoc, ← magic_len]; exact List.take_left
  have ea : s.take (7 + F.length) = magic ++ F := by
    rw [← hs, show 7 + F.length = (magic ++ F).length by simp [magic_len]]; exact List.take_left
  have ed : s.drop (7 + F.length) = I ++ foot (7 + F.length) := by
    conv => lhs; rw [← hs]
    rw [show 7 + F.length = (magic ++ F).length by simp [magic_len]]
    exact List.drop_left
  rw [hs]
  unfold openC
  rw [en, ea, ed, e4, e7, if_neg (by omega), if_neg (by simp; omega), if_neg (by omega)]

/-- WHAT IS SEALED IS OPENED. -/
theorem open_seal {l : List Sec} {s : List UInt8} (h : sealC l = (s, 0)) : openC s = (l, 0) := by
  unfold sealC at h
  by_cases c1 : ord l = false
  · rw [if_pos c1] at h; simp at h
  rw [if_neg c1] at h
  by_cases c2 : 1048576 < 7 + (body l).length + (index l).length + 12
  · rw [if_pos c2] at h; simp at h
  rw [if_neg c2] at h
  have ho : ord l = true := by simpa using c1
  have hf : ∀ x ∈ l, Fits x := fun x hx => by
    have h1 := ord_types ho x hx
    have h2 := body_mem hx
    exact ⟨by omega, by omega, by omega⟩
  injection h with h _
  rw [← h, show magic ++ body l ++ index l ++ tail (index l) ++ foot (7 + (body l).length) = magic ++ body l ++ ((index l ++ tail (index l)) ++ foot (7 + (body l).length)) by simp only [List.append_assoc]]
  rw [open_laid (body l) (index l ++ tail (index l)) (by rw [List.length_append, tail_len]; omega)]
  have hg := gets_body l magic (7 + (body l).length) hf (by omega)
  rw [magic_len] at hg
  rw [hg]
  simp [ho]

theorem open_err (s : List UInt8) (h : (openC s).2 ≠ 0) : (openC s).1 = [] := by
  unfold openC at h ⊢
  repeat' split
  all_goals first | rfl | skip
  all_goals simp_all

/-- WHAT IS OPENED WAS SEALED JUST SO. -/
theorem seal_open {s : List UInt8} {l : List Sec} (h : openC s = (l, 0)) : sealC l = (s, 0) := by
  unfold openC at h
  by_cases c1 : 1048576 < s.length
  · rw [if_pos c1] at h; simp at h
  rw [if_neg c1] at h
  by_cases c2 : s.length < 15 ∨ s.take 7 ≠ magic ∨ s.drop (s.length - 4) ≠ theEnd
  · rw [if_pos c2] at h; simp at h
  rw [if_neg c2] at h
  obtain ⟨a, ha⟩ : ∃ a, num ((s.drop (s.length - 8)).take 4) = a := ⟨_, rfl⟩
  rw [ha] at h
  by_cases c3 : a < 7 ∨ s.length - 8 < a
  · rw [if_pos c3] at h; simp at h
  rw [if_neg c3] at h
  have c2' : ¬ s.length < 15 ∧ s.take 7 = magic ∧ s.drop (s.length - 4) = theEnd := by simpa using c2
  obtain ⟨d1, d2, d3⟩ := c2'
  have hta : (s.take a).length = a := by rw [List.length_take]; omega
  cases hg : gets (s.take a) a 7 with
  | none => rw [hg] at h; simp at h
  | some m =>
    rw [hg] at h
    simp only at h
    by_cases c4 : ord m = false
    · rw [if_pos c4] at h; simp at h
    rw [if_neg c4] at h
    by_cases c5 : s.drop a ≠ index m ++ tail (index m) ++ foot a
    · rw [if_pos c5] at h; simp at h
    rw [if_neg c5] at h
    injection h with h _
    subst h
    have c5' : s.drop a = index m ++ tail (index m) ++ foot a := by simpa using c5
    obtain ⟨i1, i2⟩ := gets_only a (s.take a) 7 m (by omega) (by omega) hg
    have hb : (body m).length = a - 7 := by rw [← i1, List.length_drop, hta]
    have h7 : (s.take a).take 7 = magic := by rw [List.take_take, show min 7 a = 7 by omega, d2]
    have hs : s = magic ++ body m ++ (index m ++ tail (index m) ++ foot a) := by
      conv => lhs; rw [← List.take_append_drop a s, c5', ← List.take_append_drop 7 (s.take a), h7, i1]
    have hl : s.length = 7 + (body m).length + (index m).length + 12 := by
      conv => lhs; rw [hs]
      simp [magic_len, tail_len, foot_len]; omega
    unfold sealC
    rw [if_neg c4, if_neg (by omega), show 7 + (body m).length = a by omega]
    congr 1
    rw [hs]
    simp only [List.append_assoc]

/-- Unlike sections have unlike containers. -/
theorem seal_apart {l m : List Sec} {s : List UInt8} (h : sealC l = (s, 0)) (g : sealC m = (s, 0)) : l = m := by
  have a := open_seal h
  rw [open_seal g] at a
  injection a with a _
  exact a.symm

/-- WHO TURNS BITS OF ONE SECTION'S DATA AND ITS TAIL IS FOUND OUT. -/
theorem open_burst {l r : List Sec} {x : Sec} {s : List UInt8} (h : sealC (l ++ x :: r) = (s, 0)) (at_ bits : Nat) (hb : bits < 4294967296) {z : List UInt8}
    (hz : Turned (x.2 ++ tail (head x.1 x.2 ++ x.2)) z at_ bits) (hne : z ≠ x.2 ++ tail (head x.1 x.2 ++ x.2)) :
    ∃ P Q, s = P ++ (x.2 ++ tail (head x.1 x.2 ++ x.2)) ++ Q ∧ P.length = 7 + (body l).length + (head x.1 x.2).length ∧ openC (P ++ z ++ Q) = ([], 8) := by
  obtain ⟨L, hL⟩ : ∃ L, l ++ x :: r = L := ⟨_, rfl⟩
  rw [hL] at h
  unfold sealC at h
  by_cases c1 : ord L = false
  · rw [if_pos c1] at h; simp at h
  rw [if_neg c1] at h
  by_cases c2 : 1048576 < 7 + (body L).length + (index L).length + 12
  · rw [if_pos c2] at h; simp at h
  rw [if_neg c2] at h
  have ho : ord L = true := by simpa using c1
  have hf : ∀ x ∈ L, Fits x := fun x hx => by
    have h1 := ord_types ho x hx
    have h2 := body_mem hx
    exact ⟨by omega, by omega, by omega⟩
  injection h with h _
  have hx := hf x (by rw [← hL]; simp)
  have hzl := hz.1
  have hzb : (fput x.1 x.2).length = (head x.1 x.2).length + z.length := by rw [fput_len, hzl, List.length_append, tail_len]; omega
  have hbL : body L = body l ++ (fput x.1 x.2 ++ body r) := by rw [← hL, body_append, body]
  have hbl : (body L).length = (body l ++ ((head x.1 x.2 ++ z) ++ body r)).length := by
    rw [hbL]; simp only [List.length_append]; omega
  refine ⟨magic ++ body l ++ head x.1 x.2, body r ++ index L ++ tail (index L) ++ foot (7 + (body L).length), ?_, by simp [magic_len]; omega, ?_⟩
  · rw [← h, hbL]
    unfold fput
    simp only [List.append_assoc]
  · rw [hbl, show magic ++ body l ++ head x.1 x.2 ++ z ++ (body r ++ index L ++ tail (index L) ++ foot (7 + (body l ++ ((head x.1 x.2 ++ z) ++ body r)).length)) =
      magic ++ (body l ++ ((head x.1 x.2 ++ z) ++ body r)) ++ ((index L ++ tail (index L)) ++ foot (7 + (body l ++ ((head x.1 x.2 ++ z) ++ body r)).length)) by simp only [List.append_assoc]]
    rw [open_laid _ _ (by rw [← hbl, List.length_append, tail_len]; omega)]
    have hfb := fget_burst (magic ++ body l) (body r) x.2 z x.1 hx.1 hx.2.1 hx.2.2 at_ bits hb hz hne
    have hh := head_len x.1 x.2
    have hg := gets_bad l magic ((head x.1 x.2 ++ z) ++ body r) (7 + (body l ++ ((head x.1 x.2 ++ z) ++ body r)).length) (fun y hy => hf y (by rw [← hL]; simp [hy])) (by omega) (by
      intro e
      have := congrArg List.length e
      simp only [List.length_append, List.length_nil] at this
      omega) (by rw [← List.append_assoc, hfb]; simp)
    rw [magic_len, List.append_assoc] at hg
    rw [hg]

end Go.Proofs.YtfjdbbhaigjbmaaGreat.Cont
