/-
  The laws of layer 12, walked: what is put is got back, and what is got was put just so.
-/
import Derived.Test.YthkhonkibigdaaaGreatDeltaLawB
namespace Go.Proofs.YthkhonkibigdaaaGreat.Delta
open Go.RowKit Leb Mem Wire _root_.Go.Proofs.YthkhonkibigdaaaGreat.Arena _root_.Go.Proofs.YthkhonkibigdaaaGreat.Kinds _root_.Go.Proofs.YthkhonkibigdaaaGreat.Path _root_.Go.Proofs.YthkhonkibigdaaaGreat.Code
set_option linter.unusedVariables false
attribute [local go_sem ↓] Go.wp_at_zero Go.wp_at_succ

theorem dput_len {p : List Int} {op n : Int} (h : Right p op) (hn : N64 n) : (dput p op n).length ≤ 400 := by
  have h1 := path_len h.rng
  have h2 := h.len
  have h3 := lput_len10 (n := p.length) (by omega)
  have hz := Zig.zig_range hn.1 hn.2
  have h4 := lput_len10 (n := (Zig.zig n).toNat) (by omega)
  unfold dput
  simp only [List.length_append, List.length_cons]
  omega
theorem bytes_eq {l : List UInt8} {S : ByteArray} (h : l = S.data.toList) : (⟨l.toArray⟩ : ByteArray) = S := ByteArray.ext (by rw [h])

end Go.Proofs.YthkhonkibigdaaaGreat.Delta
