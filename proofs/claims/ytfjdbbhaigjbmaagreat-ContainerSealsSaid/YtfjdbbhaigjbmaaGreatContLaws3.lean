/-
  The laws of layer 7, walked: there and back.
-/
import Derived.Test.YtfjdbbhaigjbmaaGreatContLaws2
namespace Go.Proofs.YtfjdbbhaigjbmaaGreat.Cont
open Go.RowKit Leb Mem _root_.Go.Proofs.YtfjdbbhaigjbmaaGreat.Frame
set_option linter.unusedVariables false

theorem seal_err {l : List Sec} {r : List UInt8} {c : Int} (h : sealC l = (r, c)) (hc : c ≠ 0) : r = [] := by
  unfold sealC at h
  by_cases ho : ord l = false
  · rw [if_pos ho] at h; exact (congrArg Prod.fst h).symm
  · rw [if_neg ho] at h
    by_cases hb : 1048576 < 7 + (body l).length + (index l).length + 12
    · rw [if_pos hb] at h; exact (congrArg Prod.fst h).symm
    · rw [if_neg hb] at h; exact absurd (congrArg Prod.snd h).symm hc
theorem seal_is {l : List Sec} {r : List UInt8} (h : sealC l = (r, 0)) : ord l = true ∧ r = magic ++ body l ++ index l ++ Crc.tail (index l) ++ foot (7 + (body l).length) ∧ 7 + (body l).length + (index l).length + 12 ≤ 1048576 := by
  unfold sealC at h
  by_cases ho : ord l = false
  · rw [if_pos ho] at h; simp at h
  · rw [if_neg ho] at h
    by_cases hb : 1048576 < 7 + (body l).length + (index l).length + 12
    · rw [if_pos hb] at h; simp at h
    · rw [if_neg hb] at h; exact ⟨by simpa using ho, (congrArg Prod.fst h).symm, by omega⟩
theorem seal_len {l : List Sec} {r : List UInt8} (h : sealC l = (r, 0)) : r.length ≤ 1048576 := by
  obtain ⟨-, rfl, h2⟩ := seal_is h
  simp only [List.length_append, magic_len, Crc.tail_len, foot_len]
  omega
theorem lim_of_seal {ys : List Sect} {r : List UInt8} (h : sealC (secs ys) = (r, 0)) : Lim ys := by
  obtain ⟨h1, -, h2⟩ := seal_is h
  have h3 := ord_pos h1
  have h4 := body_ge (secs ys)
  rw [total_secs] at h4
  rw [secs_len] at h3
  exact ⟨by omega, by omega⟩

end Go.Proofs.YtfjdbbhaigjbmaaGreat.Cont
