/-
  The reference of deltas, walked: a program that is changed.
-/
import Derived.Test.YthkhonkibigdaaaGreatDeltaRefE
namespace Go.Proofs.YthkhonkibigdaaaGreat.Delta
open Go.RowKit Mem _root_.Go.Proofs.YthkhonkibigdaaaGreat.Arena _root_.Go.Proofs.YthkhonkibigdaaaGreat.Kinds _root_.Go.Proofs.YthkhonkibigdaaaGreat.Path
set_option linter.unusedVariables false
attribute [local go_sem ↓] Go.wp_at_zero Go.wp_at_succ

/-- Nodes don't lie in a program's variable. -/
theorem nodes_off {w : World} {B R : Nat} {t : TypeId} {ad : Addr} {xs : List Nd} {k : Int} {a b : Value} (h : Nodes w B (some ad) xs) (hx : xs ≠ []) (hR : Blk w R t #[.int .i64 k, a, b]) (ha : ∀ z, a ≠ .int .i64 z) (hb : ∀ z, b ≠ .int .i64 z) : ad.block ≠ R := by
  intro he
  cases xs with
  | nil => exact hx rfl
  | cons x xs =>
    obtain ⟨ad', e, -, h1, h2⟩ := h 0 x rfl
    cases e
    rw [Nat.zero_mul, show ad.add 0 = ad by simp [Addr.add]] at h1 h2
    have c := fun (o : Nat) => hR.cell o
    obtain ⟨bk, o, m⟩ := ad
    simp only at he h1 h2
    subst he
    unfold Blk at hR
    have key : ∀ (o : Nat) (m : _) (v : Value), w.cell? ⟨bk, o, m⟩ = some v → (#[.int .i64 k, a, b] : Array Value)[o]? = some v := fun o m v q => by
      simp [World.cell?, hR] at q
      have q2 := q.2
      simpa using q2
    have k1 := key o m _ h1
    have k2 := key (o + 1) none _ h2
    match o, k1, k2 with
    | 0, _, k2 => simp at k2; exact ha _ k2
    | 1, k1, _ => simp at k1; exact ha _ k1
    | 2, k1, _ => simp at k1; exact hb _ k1
    | o + 3, k1, _ => simp at k1
theorem nodes_sets {w : World} {R : Nat} {t : TypeId} {A : Option Addr} {xs : List Nd} {k : Int} {a b : Value} (h : Nodes w w.heap.size A xs) (hR : Blk w R t #[.int .i64 k, a, b]) (ha : ∀ z, a ≠ .int .i64 z) (hb : ∀ z, b ≠ .int .i64 z) (v0 v1 v2 : Value) :
    Nodes (((w.setCell ⟨R, 0, none⟩ v0).setCell ⟨R, 1, none⟩ v1).setCell ⟨R, 2, none⟩ v2) (((w.setCell ⟨R, 0, none⟩ v0).setCell ⟨R, 1, none⟩ v1).setCell ⟨R, 2, none⟩ v2).heap.size A xs := by
  intro i x hx
  obtain ⟨ad, rfl, hlt, h1, h2⟩ := h i x hx
  have hne := nodes_off h (fun e => by rw [e] at hx; cases hx) hR ha hb
  have hk : ∀ q : Addr, q.block = ad.block → (((w.setCell ⟨R, 0, none⟩ v0).setCell ⟨R, 1, none⟩ v1).setCell ⟨R, 2, none⟩ v2).cell? q = w.cell? q := fun q hq => by
    refine World.cell?_of_block ?_
    rw [hq, Below.heap_setCell _ _ _ _ hne, Below.heap_setCell _ _ _ _ hne, Below.heap_setCell _ _ _ _ hne]
  exact ⟨ad, rfl, by simpa [World.setCell] using hlt, by rw [hk _ (add_blockN _ _)]; exact h1, by rw [hk ⟨(ad.add (i * 2)).block, (ad.add (i * 2)).off + 1, none⟩ (add_blockN _ _)]; exact h2⟩
theorem row_sets {w : World} {R : Nat} {A : Option Addr} {ks : List Int} (h : IRow w w.heap.size A ks) (hR : ∀ ad, A = some ad → ks ≠ [] → ad.block ≠ R) (v0 v1 v2 : Value) :
    IRow (((w.setCell ⟨R, 0, none⟩ v0).setCell ⟨R, 1, none⟩ v1).setCell ⟨R, 2, none⟩ v2) (((w.setCell ⟨R, 0, none⟩ v0).setCell ⟨R, 1, none⟩ v1).setCell ⟨R, 2, none⟩ v2).heap.size A ks := by
  intro i x hx
  obtain ⟨ad, rfl, hlt, h1⟩ := h i x hx
  have hne := hR ad rfl (fun e => by rw [e] at hx; simp at hx)
  refine ⟨ad, rfl, by simpa [World.setCell] using hlt, ?_⟩
  rw [← h1]
  refine World.cell?_of_block ?_
  rw [add_blockN, Below.heap_setCell _ _ _ _ hne, Below.heap_setCell _ _ _ _ hne, Below.heap_setCell _ _ _ _ hne]

theorem zero_ok (w : World) : Prg.Ok ⟨0, none, 0, [], none, 0, []⟩ w := ⟨fun i x h => by simp at h, fun i x h => by simp at h, by simp, by simp, by simp, by simp, fun _ => rfl, fun _ => rfl⟩

end Go.Proofs.YthkhonkibigdaaaGreat.Delta
