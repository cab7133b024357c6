/-
  The reference of containers, walked: a section's size, the foot, a number of four bytes.
-/
import Derived.Test.YtfjdbbhaigjbmaaContFew
import Derived.Test.YtfjdbbhaigjbmaaFrameG
import Derived.Deep.DrawnRows
namespace Go.Proofs.Ytfjdbbhaigjbmaa.Cont
open Go.RowKit Leb Mem _root_.Go.Proofs.Ytfjdbbhaigjbmaa.Frame

theorem size_eq (x : Sec) : size x = (head x.1 x.2).length + x.2.length + 4 := by unfold size; exact fput_len _ _
theorem size_le {x : Sec} (h : x.2.length ≤ 1073741824) : size x ≤ x.2.length + 15 := by
  rw [size_eq, head_len]; have := lput_len10 (n := x.2.length) (by omega); omega

theorem foot_four (n : Nat) : foot n = Crc.four n ++ theEnd := by
  unfold foot Crc.four
  rw [Nat.div_div_eq_div_mul, Nat.div_div_eq_div_mul]
theorem upto_step (n k : Nat) (hk : k < 4) : str (Crc.upto n k) ++ str [UInt8.ofNat (n / 256 ^ k % 256)] = str (Crc.upto n (k + 1)) := by
  rw [str_app, Crc.upto_more n k hk]

end Go.Proofs.Ytfjdbbhaigjbmaa.Cont
