/-
  Plain facts on reading tests as a package may: no more than so many of each, all asked of a reader one by one.
-/
import Derived.Test.YtlecofghifjmcaaSuitePkg
set_option linter.unusedVariables false
namespace Go.Proofs.Ytlecofghifjmcaa.Suite
open Go.RowKit Leb Mem Wire Zig _root_.Go.Proofs.Ytlecofghifjmcaa.Arena _root_.Go.Proofs.Ytlecofghifjmcaa.Kinds _root_.Go.Proofs.Ytlecofghifjmcaa.Code _root_.Go.Proofs.Ytlecofghifjmcaa.Delta

def u1 (S : ByteArray) : (Int × Int) × Int := askP S (0, 0) 2 10000
def u2 (S : ByteArray) : (Int × Int) × Int := askP S (u1 S).1 2 20
def u3 (S : ByteArray) : (Int × Int) × Int := askP S (u2 S).1 2 12
def u4 (S : ByteArray) : List (List Int) × (Int × Int) := rrows (fun s => askP S s 3 0) (u3 S).2.toNat (u3 S).1 (u2 S).2.toNat
theorem u_put {ts : List (List Int)} {f : Int} (g : SRight ts f) (hn : T64 ts) {S : ByteArray} {y : List UInt8} (hS : S.data.toList = sput ts f ++ y) :
    (u4 S).1 = ts ∧ (u1 S).2 = f := by
  have hf : ((f.toNat : Nat) : Int) = f := Int.toNat_of_nonneg (by have := g.f0; omega)
  have l1 : S.data.toList = [] ++ (lput f.toNat ++ ((lput ts.length ++ (lput (wid ts) ++ rowb ts)) ++ y)) := by rw [hS]; unfold sput; simp
  have a1 := askP_num (N := 10000) (n := f.toNat) (by omega) (by have := g.f1; omega) l1
  have l2 : S.data.toList = lput f.toNat ++ (lput ts.length ++ ((lput (wid ts) ++ rowb ts) ++ y)) := by rw [hS]; unfold sput; simp
  have a2 := askP_num (N := 20) (n := ts.length) (by omega) (by have := g.n1; omega) l2
  have l3 : S.data.toList = (lput f.toNat ++ lput ts.length) ++ (lput (wid ts) ++ (rowb ts ++ y)) := by rw [hS]; unfold sput; simp
  have a3 := askP_num (N := 12) (n := wid ts) (by omega) (by have := g.w; omega) l3
  have l4 : S.data.toList = (lput f.toNat ++ lput ts.length ++ lput (wid ts)) ++ (rowb ts ++ y) := by rw [hS]; unfold sput; simp
  have a4 := rrows_put (asksI_askP S 0) g.same hn l4 ts.length (Nat.le_refl _)
  simp only [List.length_append, List.length_nil, Int.natCast_add, Int.natCast_zero, Int.zero_add, List.take_length] at a1 a2 a3 a4
  have e1 : u1 S = ((((lput f.toNat).length : Int), 0), f) := by unfold u1; rw [← hf]; exact a1
  have e2 : u2 S = ((((lput f.toNat).length : Int) + (lput ts.length).length, 0), (ts.length : Int)) := by unfold u2; rw [e1]; exact a2
  have e3 : u3 S = ((((lput f.toNat).length : Int) + (lput ts.length).length + (lput (wid ts)).length, 0), (wid ts : Int)) := by unfold u3; rw [e2]; exact a3
  refine ⟨?_, by rw [e1]⟩
  unfold u4
  rw [e2, e3]
  simp only [Int.toNat_natCast]
  rw [a4]
theorem rpP_64 (S : ByteArray) (s : Int × Int) : ∀ i, ∀ x ∈ (rp (fun s => askP S s 3 0) s i).1, N64 x
  | 0, x, h => by simp [rp] at h
  | i + 1, x, h => by
    rw [rp, List.mem_append] at h
    rcases h with h | h
    · exact rpP_64 S s i x h
    · rw [List.mem_singleton] at h
      rw [h]
      exact askP_int_rng
theorem rrowsP_64 (S : ByteArray) (m : Nat) (s : Int × Int) : ∀ i, T64 (rrows (fun s => askP S s 3 0) m s i).1
  | 0, t, h => by simp [rrows] at h
  | i + 1, t, h => by
    rw [rrows, List.mem_append] at h
    rcases h with h | h
    · exact rrowsP_64 S m s i t h
    · rw [List.mem_singleton] at h
      rw [h]
      exact rpP_64 S _ _
theorem u4_64 (S : ByteArray) : T64 (u4 S).1 := rrowsP_64 S _ _ _
theorem u1_rng (S : ByteArray) : 0 ≤ (u1 S).2 ∧ (u1 S).2 ≤ 10000 := askP_count (by omega) (by omega)
theorem u1_64 (S : ByteArray) : N64 (u1 S).2 := by
  have := u1_rng S
  unfold N64
  omega
/-- What the package reads has these bytes just if they are those of tests. -/
theorem fits_u (S : ByteArray) : (SRight (u4 S).1 (u1 S).2 ∧ sput (u4 S).1 (u1 S).2 = S.data.toList) ↔ sfits S := by
  constructor
  · rintro ⟨h1, h2⟩
    exact (sfits_put h1 (u4_64 S) h2.symm).1
  · rintro ⟨h1, h2⟩
    obtain ⟨a1, a2⟩ := u_put (y := []) h1 (t4_64 S) (by rw [List.append_nil]; exact h2.symm)
    rw [a1, a2]
    exact ⟨h1, h2⟩
theorem same_u {S : ByteArray} (h : sfits S) : (u4 S).1 = (t4 S).1 ∧ (u1 S).2 = (t1 S).2 :=
  u_put (y := []) h.1 (t4_64 S) (by rw [List.append_nil]; exact h.2.symm)

end Go.Proofs.Ytlecofghifjmcaa.Suite
