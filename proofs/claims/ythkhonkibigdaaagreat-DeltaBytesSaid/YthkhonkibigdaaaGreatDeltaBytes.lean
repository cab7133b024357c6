/-
  Plain facts on deltas as bytes: what is put is read back, whatever stands behind it; a delta has one form. No program is met here.
-/
import Derived.Test.YthkhonkibigdaaaGreatCodeG
namespace Go.Proofs.YthkhonkibigdaaaGreat.Delta
open Go.RowKit Leb Mem Wire Zig _root_.Go.Proofs.YthkhonkibigdaaaGreat.Arena _root_.Go.Proofs.YthkhonkibigdaaaGreat.Kinds _root_.Go.Proofs.YthkhonkibigdaaaGreat.Code

/-- May a delta be put? -/
structure Right (p : List Int) (op : Int) : Prop where
  len : p.length ≤ 30
  rng : ∀ k ∈ p, 0 ≤ k ∧ k ≤ 199
  op0 : 1 ≤ op
  op1 : op ≤ 7
def pathb (p : List Int) : List UInt8 := p.flatMap fun k => lput k.toNat
def dput (p : List Int) (op n : Int) : List UInt8 := lput p.length ++ (pathb p ++ (tb op :: lput (zig n).toNat))

/-- The first i numbers of a path, by one who asks for a number. -/
def rp (g : Int × Int → (Int × Int) × Int) (s : Int × Int) : Nat → List Int × (Int × Int)
  | 0 => ([], s)
  | i + 1 => ((rp g s i).1 ++ [(g (rp g s i).2).2], (g (rp g s i).2).1)
/-- One who asks for numbers up to 199, and is told them. -/
def Asks (S : ByteArray) (g : Int × Int → (Int × Int) × Int) : Prop := ∀ (x y : List UInt8) (n : Nat), n ≤ 199 → S.data.toList = x ++ (lput n ++ y) → g ((x.length : Int), 0) = (((x.length : Int) + (lput n).length, 0), (n : Int))
theorem rp_put {S : ByteArray} {g : Int × Int → (Int × Int) × Int} (hg : Asks S g) {x y : List UInt8} {p : List Int} (hp : ∀ k ∈ p, 0 ≤ k ∧ k ≤ 199) (hS : S.data.toList = x ++ (pathb p ++ y)) : ∀ i, i ≤ p.length → rp g ((x.length : Int), 0) i = (p.take i, ((x.length : Int) + (pathb (p.take i)).length, 0))
  | 0, _ => by simp [rp, pathb]
  | i + 1, h => by
    have ih := rp_put hg hp hS i (by omega)
    obtain ⟨t, ht⟩ : ∃ t, p[i]? = some t := ⟨_, List.getElem?_eq_getElem (by omega)⟩
    have hr := hp t (List.mem_of_getElem? ht)
    have hsp : p = p.take i ++ (t :: p.drop (i + 1)) := by
      have : p.drop i = t :: p.drop (i + 1) := by
        have hi : i < p.length := by omega
        rw [List.drop_eq_getElem_cons hi]
        rw [List.getElem?_eq_getElem hi] at ht
        rw [Option.some.inj ht]
      rw [← this, List.take_append_drop]
    have htk : p.take (i + 1) = p.take i ++ [t] := by rw [List.take_add_one, ht]; rfl
    have hS2 : S.data.toList = (x ++ pathb (p.take i)) ++ (lput t.toNat ++ (pathb (p.drop (i + 1)) ++ y)) := by
      rw [hS]
      conv => lhs; rw [hsp]
      simp [pathb]
    have ha := hg _ _ t.toNat (by omega) hS2
    rw [List.length_append, Int.natCast_add, Int.toNat_of_nonneg hr.1] at ha
    rw [rp, ih]
    simp only
    rw [ha, htk]
    simp [pathb]
    omega
theorem rp_len (g : Int × Int → (Int × Int) × Int) (s : Int × Int) : ∀ i, (rp g s i).1.length = i
  | 0 => rfl
  | i + 1 => by rw [rp, List.length_append, rp_len g s i]; rfl
theorem asks_ask (S : ByteArray) : Asks S fun s => Code.ask S s 2 := fun _ _ _ hn hS => ask_num (by omega) hS
theorem asks_askP (S : ByteArray) {N : Int} (h0 : 199 ≤ N) (h1 : N ≤ 1000000) : Asks S fun s => askP S s 2 N := fun _ _ _ hn hS => askP_num h1 (by omega) hS

/-- Reading a delta, as well as can be: where the reader is behind the count, behind the path, behind the operator, and behind the number. -/
def d1 (S : ByteArray) : (Int × Int) × Int := Code.ask S (0, 0) 2
def d2 (S : ByteArray) : List Int × (Int × Int) := rp (fun s => Code.ask S s 2) (d1 S).1 (min (d1 S).2.toNat 31)
def d3 (S : ByteArray) : (Int × Int) × Int := Code.ask S (d2 S).2 0
def d4 (S : ByteArray) : (Int × Int) × Int := Code.ask S (d3 S).1 3
/-- WHAT IS PUT IS READ BACK, whatever stands behind it. -/
theorem d_put {p : List Int} {op n : Int} (g : Right p op) (h0 : -9223372036854775808 ≤ n) (h1 : n ≤ 9223372036854775807) {S : ByteArray} {y : List UInt8} (hS : S.data.toList = dput p op n ++ y) :
    (d2 S).1 = p ∧ (d3 S).2 = op ∧ (d4 S).2 = n ∧ (d4 S).1 = (((dput p op n).length : Int), 0) := by
  have l1 : S.data.toList = [] ++ (lput p.length ++ ((pathb p ++ (tb op :: lput (zig n).toNat)) ++ y)) := by rw [hS]; unfold dput; simp
  have a1 := ask_num (n := p.length) (by have := g.len; omega) l1
  have l2 : S.data.toList = lput p.length ++ (pathb p ++ ((tb op :: lput (zig n).toNat) ++ y)) := by rw [hS]; unfold dput; simp
  have a2 := rp_put (asks_ask S) g.rng l2 p.length (Nat.le_refl _)
  have l3 : S.data.toList = (lput p.length ++ pathb p) ++ (tb op :: (lput (zig n).toNat ++ y)) := by rw [hS]; unfold dput; simp
  have a3 := ask_byte l3
  have l4 : S.data.toList = (lput p.length ++ pathb p ++ [tb op]) ++ (lput (zig n).toNat ++ y) := by rw [hS]; unfold dput; simp
  have a4 := ask_int h0 h1 l4
  rw [tb_val (by have := g.op0; omega) (by have := g.op1; omega)] at a3
  have hl := g.len
  simp only [List.length_append, List.length_nil, List.length_cons, Int.natCast_add, Int.natCast_zero, Int.natCast_one, Int.zero_add, List.take_length] at a1 a2 a3 a4
  have e1 : d1 S = ((((lput p.length).length : Int), 0), (p.length : Int)) := by unfold d1; exact a1
  have e2 : d2 S = (p, ((lput p.length).length : Int) + (pathb p).length, 0) := by unfold d2; rw [e1]; simp only [Int.toNat_natCast]; rw [Nat.min_eq_left (by omega)]; exact a2
  have e3 : d3 S = ((((lput p.length).length : Int) + (pathb p).length + 1, 0), op) := by unfold d3; rw [e2]; exact a3
  have e4 : d4 S = ((((lput p.length).length : Int) + (pathb p).length + 1 + (lput (zig n).toNat).length, 0), n) := by unfold d4; rw [e3]; exact a4
  refine ⟨by rw [e2], by rw [e3], by rw [e4], ?_⟩
  rw [e4]
  unfold dput
  simp only [List.length_append, List.length_cons, Int.natCast_add, Int.natCast_one, Prod.mk.injEq, and_true]
  omega
/-- A DELTA HAS ONE FORM. -/
theorem dput_one {p p' : List Int} {op op' n n' : Int} (g : Right p op) (g' : Right p' op') (h0 : -9223372036854775808 ≤ n) (h1 : n ≤ 9223372036854775807) (h0' : -9223372036854775808 ≤ n') (h1' : n' ≤ 9223372036854775807) {y y' : List UInt8} (h : dput p op n ++ y = dput p' op' n' ++ y') :
    (p = p' ∧ op = op' ∧ n = n') ∧ y = y' := by
  obtain ⟨a1, a2, a3, -⟩ := d_put g h0 h1 (S := strB (dput p op n ++ y)) (y := y) (strB_list _)
  obtain ⟨b1, b2, b3, -⟩ := d_put g' h0' h1' (S := strB (dput p op n ++ y)) (y := y') (by rw [strB_list, h])
  obtain rfl : p = p' := a1.symm.trans b1
  obtain rfl : op = op' := a2.symm.trans b2
  obtain rfl : n = n' := a3.symm.trans b3
  exact ⟨⟨rfl, rfl, rfl⟩, List.append_cancel_left h⟩
/-- Are these bytes a delta's? -/
def dfits (S : ByteArray) : Prop := Right (d2 S).1 (d3 S).2 ∧ dput (d2 S).1 (d3 S).2 (d4 S).2 = S.data.toList
theorem d4_rng (S : ByteArray) : -9223372036854775808 ≤ (d4 S).2 ∧ (d4 S).2 ≤ 9223372036854775807 := ask_rng S _ 3 (.inr rfl)
theorem dfits_put {p : List Int} {op n : Int} (g : Right p op) (h0 : -9223372036854775808 ≤ n) (h1 : n ≤ 9223372036854775807) {S : ByteArray} (hS : S.data.toList = dput p op n) : dfits S ∧ (d2 S).1 = p ∧ (d3 S).2 = op ∧ (d4 S).2 = n := by
  obtain ⟨a1, a2, a3, -⟩ := d_put g h0 h1 (S := S) (y := []) (by rw [hS, List.append_nil])
  refine ⟨?_, a1, a2, a3⟩
  unfold dfits
  rw [a1, a2, a3]
  exact ⟨g, hS.symm⟩

/-- Reading as a package may: no more than 30 numbers, each no more than 199. -/
def e1 (S : ByteArray) : (Int × Int) × Int := askP S (0, 0) 2 30
def e2 (S : ByteArray) : List Int × (Int × Int) := rp (fun s => askP S s 2 199) (e1 S).1 (e1 S).2.toNat
def e3 (S : ByteArray) : (Int × Int) × Int := askP S (e2 S).2 0 0
def e4 (S : ByteArray) : (Int × Int) × Int := askP S (e3 S).1 3 0
theorem e_put {p : List Int} {op n : Int} (g : Right p op) (h0 : -9223372036854775808 ≤ n) (h1 : n ≤ 9223372036854775807) {S : ByteArray} {y : List UInt8} (hS : S.data.toList = dput p op n ++ y) :
    (e2 S).1 = p ∧ (e3 S).2 = op ∧ (e4 S).2 = n ∧ (e4 S).1 = (((dput p op n).length : Int), 0) := by
  have l1 : S.data.toList = [] ++ (lput p.length ++ ((pathb p ++ (tb op :: lput (zig n).toNat)) ++ y)) := by rw [hS]; unfold dput; simp
  have a1 := askP_num (N := 30) (n := p.length) (by omega) (by have := g.len; omega) l1
  have l2 : S.data.toList = lput p.length ++ (pathb p ++ ((tb op :: lput (zig n).toNat) ++ y)) := by rw [hS]; unfold dput; simp
  have a2 := rp_put (asks_askP S (N := 199) (by omega) (by omega)) g.rng l2 p.length (Nat.le_refl _)
  have l3 : S.data.toList = (lput p.length ++ pathb p) ++ (tb op :: (lput (zig n).toNat ++ y)) := by rw [hS]; unfold dput; simp
  have a3 := askP_byte l3
  have l4 : S.data.toList = (lput p.length ++ pathb p ++ [tb op]) ++ (lput (zig n).toNat ++ y) := by rw [hS]; unfold dput; simp
  have a4 := askP_int (N := 0) h0 h1 l4
  rw [tb_val (by have := g.op0; omega) (by have := g.op1; omega)] at a3
  simp only [List.length_append, List.length_nil, List.length_cons, Int.natCast_add, Int.natCast_zero, Int.natCast_one, Int.zero_add, List.take_length] at a1 a2 a3 a4
  have f1 : e1 S = ((((lput p.length).length : Int), 0), (p.length : Int)) := by unfold e1; exact a1
  have f2 : e2 S = (p, ((lput p.length).length : Int) + (pathb p).length, 0) := by unfold e2; rw [f1]; simp only [Int.toNat_natCast]; exact a2
  have f3 : e3 S = ((((lput p.length).length : Int) + (pathb p).length + 1, 0), op) := by unfold e3; rw [f2]; exact a3
  have f4 : e4 S = ((((lput p.length).length : Int) + (pathb p).length + 1 + (lput (zig n).toNat).length, 0), n) := by unfold e4; rw [f3]; exact a4
  refine ⟨by rw [f2], by rw [f3], by rw [f4], ?_⟩
  rw [f4]
  unfold dput
  simp only [List.length_append, List.length_cons, Int.natCast_add, Int.natCast_one, Prod.mk.injEq, and_true]
  omega

end Go.Proofs.YthkhonkibigdaaaGreat.Delta
