/-
  Plain facts on tests as bytes: which may be, which may be put; what is put is read back, whatever stands behind it; tests have one form. No program is met here.
-/
import Derived.Test.YtlecofghifjmcaaDeltaG
set_option linter.unusedVariables false
namespace Go.Proofs.Ytlecofghifjmcaa.Suite
open Go.RowKit Leb Mem Wire Zig _root_.Go.Proofs.Ytlecofghifjmcaa.Arena _root_.Go.Proofs.Ytlecofghifjmcaa.Kinds _root_.Go.Proofs.Ytlecofghifjmcaa.Code _root_.Go.Proofs.Ytlecofghifjmcaa.Delta

/-- How many numbers the first test has. -/
def wid (ts : List (List Int)) : Nat := (ts.headD []).length
/-- Are there as many numbers in each test? -/
def evenB (n : Int) (ts : List (List Int)) : Bool := ts.all fun t => decide ((t.length : Int) = n)
/-- May tests be? -/
def scheck (n : Int) (ts : List (List Int)) (f : Int) : Int := if ts.length < 1 ∨ 20 < ts.length then 18 else if evenB n ts = false then 18 else if f < 1 ∨ 10000 < f then 19 else 0
/-- May they be put? -/
def serr (ts : List (List Int)) (f : Int) : Int := if ts.length = 0 ∨ 12 < wid ts then 18 else scheck (wid ts) ts f
structure SRight (ts : List (List Int)) (f : Int) : Prop where
  n0 : 1 ≤ ts.length
  n1 : ts.length ≤ 20
  w : wid ts ≤ 12
  same : ∀ t ∈ ts, t.length = wid ts
  f0 : 1 ≤ f
  f1 : f ≤ 10000
theorem even_iff {n : Int} {ts : List (List Int)} : evenB n ts = true ↔ ∀ t ∈ ts, (t.length : Int) = n := by
  unfold evenB
  rw [List.all_eq_true]
  simp only [decide_eq_true_eq]
theorem serr_zero {ts : List (List Int)} {f : Int} : serr ts f = 0 ↔ SRight ts f := by
  unfold serr scheck
  constructor
  · intro h
    by_cases h1 : ts.length = 0 ∨ 12 < wid ts
    · rw [if_pos h1] at h; exact absurd h (by decide)
    rw [if_neg h1] at h
    by_cases h2 : ts.length < 1 ∨ 20 < ts.length
    · rw [if_pos h2] at h; exact absurd h (by decide)
    rw [if_neg h2] at h
    by_cases h3 : evenB (wid ts) ts = false
    · rw [if_pos h3] at h; exact absurd h (by decide)
    rw [if_neg h3] at h
    by_cases h4 : f < 1 ∨ 10000 < f
    · rw [if_pos h4] at h; exact absurd h (by decide)
    refine ⟨by omega, by omega, by omega, fun t ht => ?_, by omega, by omega⟩
    have := even_iff.1 (by simpa using h3) t ht
    omega
  · rintro ⟨h1, h2, h3, h4, h5, h6⟩
    rw [if_neg (by omega), if_neg (by omega), if_neg, if_neg (by omega)]
    rw [even_iff.2 (fun t ht => by have := h4 t ht; omega)]
    decide
theorem serr_or (ts : List (List Int)) (f : Int) : serr ts f = 0 ∨ serr ts f = 18 ∨ serr ts f = 19 := by
  unfold serr scheck
  repeat' split
  all_goals simp

/-- Numbers of 64 bits, all. -/
def T64 (ts : List (List Int)) : Prop := ∀ t ∈ ts, ∀ x ∈ t, N64 x
/-- Numbers as bytes; tests as bytes. -/
def intb (t : List Int) : List UInt8 := t.flatMap fun x => lput (zig x).toNat
def rowb (ts : List (List Int)) : List UInt8 := ts.flatMap intb
def sput (ts : List (List Int)) (f : Int) : List UInt8 := lput f.toNat ++ (lput ts.length ++ (lput (wid ts) ++ rowb ts))

/-- One who asks for numbers with a sign, and is told them. -/
def AsksI (S : ByteArray) (g : Int × Int → (Int × Int) × Int) : Prop := ∀ (x y : List UInt8) (n : Int), N64 n → S.data.toList = x ++ (lput (zig n).toNat ++ y) → g ((x.length : Int), 0) = (((x.length : Int) + (lput (zig n).toNat).length, 0), n)
theorem asksI_ask (S : ByteArray) : AsksI S fun s => Code.ask S s 3 := fun _ _ _ hn hS => ask_int hn.1 hn.2 hS
theorem asksI_askP (S : ByteArray) (N : Int) : AsksI S fun s => askP S s 3 N := fun _ _ _ hn hS => askP_int hn.1 hn.2 hS
theorem split_at' {α : Type} {p : List α} {i : Nat} {t : α} (ht : p[i]? = some t) : p = p.take i ++ (t :: p.drop (i + 1)) := by
  have hi : i < p.length := (List.getElem?_eq_some_iff.1 ht).1
  have : p.drop i = t :: p.drop (i + 1) := by
    rw [List.drop_eq_getElem_cons hi]
    rw [List.getElem?_eq_getElem hi] at ht
    rw [Option.some.inj ht]
  rw [← this, List.take_append_drop]
theorem take_one {α : Type} {p : List α} {i : Nat} {t : α} (ht : p[i]? = some t) : p.take (i + 1) = p.take i ++ [t] := by rw [List.take_add_one, ht]; rfl
theorem ri_put {S : ByteArray} {g : Int × Int → (Int × Int) × Int} (hg : AsksI S g) {x y : List UInt8} {p : List Int} (hp : ∀ k ∈ p, N64 k) (hS : S.data.toList = x ++ (intb p ++ y)) : ∀ i, i ≤ p.length → rp g ((x.length : Int), 0) i = (p.take i, ((x.length : Int) + (intb (p.take i)).length, 0))
  | 0, _ => by simp [rp, intb]
  | i + 1, h => by
    have ih := ri_put hg hp hS i (by omega)
    obtain ⟨t, ht⟩ : ∃ t, p[i]? = some t := ⟨_, List.getElem?_eq_getElem (by omega)⟩
    have hr := hp t (List.mem_of_getElem? ht)
    have hS2 : S.data.toList = (x ++ intb (p.take i)) ++ (lput (zig t).toNat ++ (intb (p.drop (i + 1)) ++ y)) := by
      rw [hS]
      conv => lhs; rw [split_at' ht]
      simp [intb]
    have ha := hg _ _ t hr hS2
    rw [List.length_append, Int.natCast_add] at ha
    rw [rp, ih]
    simp only
    rw [ha, take_one ht]
    simp [intb]
    omega
/-- The first i tests of m numbers each. -/
def rrows (g : Int × Int → (Int × Int) × Int) (m : Nat) (s : Int × Int) : Nat → List (List Int) × (Int × Int)
  | 0 => ([], s)
  | i + 1 => ((rrows g m s i).1 ++ [(rp g (rrows g m s i).2 m).1], (rp g (rrows g m s i).2 m).2)
theorem rrows_len (g : Int × Int → (Int × Int) × Int) (m : Nat) (s : Int × Int) : ∀ i, (rrows g m s i).1.length = i
  | 0 => rfl
  | i + 1 => by rw [rrows, List.length_append, rrows_len g m s i]; rfl
theorem rrows_wid (g : Int × Int → (Int × Int) × Int) (m : Nat) (s : Int × Int) : ∀ i, ∀ t ∈ (rrows g m s i).1, t.length = m
  | 0, t, h => by simp [rrows] at h
  | i + 1, t, h => by
    rw [rrows, List.mem_append] at h
    rcases h with h | h
    · exact rrows_wid g m s i t h
    · rw [List.mem_singleton] at h
      rw [h, rp_len]
theorem rrows_put {S : ByteArray} {g : Int × Int → (Int × Int) × Int} (hg : AsksI S g) {x y : List UInt8} {m : Nat} {ts : List (List Int)} (hm : ∀ t ∈ ts, t.length = m) (hp : T64 ts) (hS : S.data.toList = x ++ (rowb ts ++ y)) : ∀ i, i ≤ ts.length → rrows g m ((x.length : Int), 0) i = (ts.take i, ((x.length : Int) + (rowb (ts.take i)).length, 0))
  | 0, _ => by simp [rrows, rowb]
  | i + 1, h => by
    have ih := rrows_put hg hm hp hS i (by omega)
    obtain ⟨t, ht⟩ : ∃ t, ts[i]? = some t := ⟨_, List.getElem?_eq_getElem (by omega)⟩
    have hmem := List.mem_of_getElem? ht
    have hS2 : S.data.toList = (x ++ rowb (ts.take i)) ++ (intb t ++ (rowb (ts.drop (i + 1)) ++ y)) := by
      rw [hS]
      conv => lhs; rw [split_at' ht]
      simp [rowb]
    have ha := ri_put hg (hp t hmem) hS2 m (by rw [hm t hmem]; exact Nat.le_refl _)
    rw [List.length_append, Int.natCast_add, show t.take m = t from List.take_of_length_le (by rw [hm t hmem]; exact Nat.le_refl _)] at ha
    rw [rrows, ih]
    simp only
    rw [ha, take_one ht]
    simp [rowb]
    omega

/-- Reading tests, as well as can be: the fuel, how many tests, how many numbers, the tests. -/
def t1 (S : ByteArray) : (Int × Int) × Int := Code.ask S (0, 0) 2
def t2 (S : ByteArray) : (Int × Int) × Int := Code.ask S (t1 S).1 2
def t3 (S : ByteArray) : (Int × Int) × Int := Code.ask S (t2 S).1 2
def t4 (S : ByteArray) : List (List Int) × (Int × Int) := rrows (fun s => Code.ask S s 3) (min (t3 S).2.toNat 13) (t3 S).1 (min (t2 S).2.toNat 21)
/-- WHAT IS PUT IS READ BACK, whatever stands behind it. -/
theorem s_put {ts : List (List Int)} {f : Int} (g : SRight ts f) (hn : T64 ts) {S : ByteArray} {y : List UInt8} (hS : S.data.toList = sput ts f ++ y) :
    (t4 S).1 = ts ∧ (t1 S).2 = f ∧ (t4 S).2 = (((sput ts f).length : Int), 0) := by
  have hf : ((f.toNat : Nat) : Int) = f := Int.toNat_of_nonneg (by have := g.f0; omega)
  have l1 : S.data.toList = [] ++ (lput f.toNat ++ ((lput ts.length ++ (lput (wid ts) ++ rowb ts)) ++ y)) := by rw [hS]; unfold sput; simp
  have a1 := ask_num (n := f.toNat) (by have := g.f1; omega) l1
  have l2 : S.data.toList = lput f.toNat ++ (lput ts.length ++ ((lput (wid ts) ++ rowb ts) ++ y)) := by rw [hS]; unfold sput; simp
  have a2 := ask_num (n := ts.length) (by have := g.n1; omega) l2
  have l3 : S.data.toList = (lput f.toNat ++ lput ts.length) ++ (lput (wid ts) ++ (rowb ts ++ y)) := by rw [hS]; unfold sput; simp
  have a3 := ask_num (n := wid ts) (by have := g.w; omega) l3
  have l4 : S.data.toList = (lput f.toNat ++ lput ts.length ++ lput (wid ts)) ++ (rowb ts ++ y) := by rw [hS]; unfold sput; simp
  have a4 := rrows_put (asksI_ask S) g.same hn l4 ts.length (Nat.le_refl _)
  have g1 := g.n1
  have g2 := g.w
  simp only [List.length_append, List.length_nil, Int.natCast_add, Int.natCast_zero, Int.zero_add, List.take_length] at a1 a2 a3 a4
  have e1 : t1 S = ((((lput f.toNat).length : Int), 0), f) := by unfold t1; rw [← hf]; exact a1
  have e2 : t2 S = ((((lput f.toNat).length : Int) + (lput ts.length).length, 0), (ts.length : Int)) := by unfold t2; rw [e1]; exact a2
  have e3 : t3 S = ((((lput f.toNat).length : Int) + (lput ts.length).length + (lput (wid ts)).length, 0), (wid ts : Int)) := by unfold t3; rw [e2]; exact a3
  have e4 : t4 S = (ts, ((lput f.toNat).length : Int) + (lput ts.length).length + (lput (wid ts)).length + (rowb ts).length, 0) := by
    unfold t4
    rw [e2, e3]
    simp only [Int.toNat_natCast]
    rw [Nat.min_eq_left (by omega), Nat.min_eq_left (by omega)]
    exact a4
  refine ⟨by rw [e4], by rw [e1], ?_⟩
  rw [e4]
  unfold sput
  simp only [List.length_append, Int.natCast_add, Prod.mk.injEq, and_true]
  omega
/-- TESTS HAVE ONE FORM. -/
theorem sput_one {ts ts' : List (List Int)} {f f' : Int} (g : SRight ts f) (g' : SRight ts' f') (hn : T64 ts) (hn' : T64 ts') {y y' : List UInt8} (h : sput ts f ++ y = sput ts' f' ++ y') : (ts = ts' ∧ f = f') ∧ y = y' := by
  obtain ⟨a1, a2, -⟩ := s_put g hn (S := strB (sput ts f ++ y)) (y := y) (strB_list _)
  obtain ⟨b1, b2, -⟩ := s_put g' hn' (S := strB (sput ts f ++ y)) (y := y') (by rw [strB_list, h])
  obtain rfl : ts = ts' := a1.symm.trans b1
  obtain rfl : f = f' := a2.symm.trans b2
  exact ⟨⟨rfl, rfl⟩, List.append_cancel_left h⟩
theorem sput_inj {ts ts' : List (List Int)} {f f' : Int} (g : SRight ts f) (g' : SRight ts' f') (hn : T64 ts) (hn' : T64 ts') (h : sput ts f = sput ts' f') : ts = ts' ∧ f = f' :=
  (sput_one g g' hn hn' (y := []) (y' := []) (by rw [h])).1
/-- Are these bytes those of tests? -/
def sfits (S : ByteArray) : Prop := SRight (t4 S).1 (t1 S).2 ∧ sput (t4 S).1 (t1 S).2 = S.data.toList
theorem rp_64 (S : ByteArray) (s : Int × Int) : ∀ i, ∀ x ∈ (rp (fun s => Code.ask S s 3) s i).1, N64 x
  | 0, x, h => by simp [rp] at h
  | i + 1, x, h => by
    rw [rp, List.mem_append] at h
    rcases h with h | h
    · exact rp_64 S s i x h
    · rw [List.mem_singleton] at h
      rw [h]
      exact ask_rng S _ 3 (.inr rfl)
theorem rrows_64 (S : ByteArray) (m : Nat) (s : Int × Int) : ∀ i, T64 (rrows (fun s => Code.ask S s 3) m s i).1
  | 0, t, h => by simp [rrows] at h
  | i + 1, t, h => by
    rw [rrows, List.mem_append] at h
    rcases h with h | h
    · exact rrows_64 S m s i t h
    · rw [List.mem_singleton] at h
      rw [h]
      exact rp_64 S _ _
theorem t4_64 (S : ByteArray) : T64 (t4 S).1 := rrows_64 S _ _ _
theorem t1_64 (S : ByteArray) : N64 (t1 S).2 := ask_rng S _ 2 (.inl rfl)
theorem sfits_put {ts : List (List Int)} {f : Int} (g : SRight ts f) (hn : T64 ts) {S : ByteArray} (hS : S.data.toList = sput ts f) : sfits S ∧ (t4 S).1 = ts ∧ (t1 S).2 = f := by
  obtain ⟨a1, a2, -⟩ := s_put g hn (S := S) (y := []) (by rw [hS, List.append_nil])
  refine ⟨?_, a1, a2⟩
  unfold sfits
  rw [a1, a2]
  exact ⟨g, hS.symm⟩
/-- How many bytes there are. -/
theorem intb_len {t : List Int} (h : ∀ x ∈ t, N64 x) : (intb t).length ≤ 10 * t.length := by
  induction t with
  | nil => simp [intb]
  | cons x p ih =>
    have h1 := ih (fun k hk => h k (List.mem_cons_of_mem _ hk))
    have hz := zig_range (h x (List.mem_cons_self ..)).1 (h x (List.mem_cons_self ..)).2
    have := lput_len10 (n := (zig x).toNat) (by omega)
    unfold intb at *
    rw [List.flatMap_cons, List.length_append, List.length_cons]
    omega
theorem rowb_len {m : Nat} {ts : List (List Int)} (hm : ∀ t ∈ ts, t.length ≤ m) (h : T64 ts) : (rowb ts).length ≤ 10 * m * ts.length := by
  induction ts with
  | nil => simp [rowb]
  | cons x p ih =>
    have h1 := ih (fun k hk => hm k (List.mem_cons_of_mem _ hk)) (fun k hk => h k (List.mem_cons_of_mem _ hk))
    have h2 := intb_len (h x (List.mem_cons_self ..))
    have h3 := hm x (List.mem_cons_self ..)
    have h4 : 10 * x.length ≤ 10 * m := by omega
    unfold rowb at *
    rw [List.flatMap_cons, List.length_append, List.length_cons, Nat.mul_add, Nat.mul_one]
    omega

end Go.Proofs.Ytlecofghifjmcaa.Suite
