/-
  The reference of code, walked: one thing that is read.
-/
import Derived.Test.YtekogckmgkodfaaGreatDoorCodeG
import Derived.Test.YtekogckmgkodfaaGreatDoorWireH
import Derived.Deep.RegionHeld3
import Derived.Deep.DrawnRows
import Derived.Handy
namespace Go.Proofs.YtekogckmgkodfaaGreatDoor.Code
open Go.RowKit Leb Mem Wire Arena Kinds
set_option linter.unusedVariables false
attribute [local go_sem ↓] Go.wp_at_zero Go.wp_at_succ
theorem ask_byte_rng(S:ByteArray)(s:Int×Int) : -1≤(ask S s 0).2∧(ask S s 0).2≤255:=by
 unfold ask
 simp only
 split
 ·omega
 ·rw [if_neg (by decide)]
  rcases fin_num_or (outOf S s.1.toNat 0 1000000) s.2 s.1.toNat with q | q
  ·rw [q]
   unfold outOf
   rw [if_pos rfl]
   split
   ·have:=byte_le S[s.1.toNat];simp only;omega
   ·simp
  ·rw [q];omega
theorem ask_range{S:ByteArray}{s:Int×Int}{k:Int}(h0:0≤s.1)(h:s.1≤S.size):0≤(ask S s k).1.1∧(ask S s k).1.1≤S.size:=by
 have:=fin_range S s.1.toNat s.2 k 1000000 (by omega)
 exact⟨this.1,this.2.1⟩
theorem fin_num_rng(S:ByteArray)(p:Nat)(er k:Int)(hk:k=0∨k=2):0≤((outOf S p k 1000000).fin er p).num∧((outOf S p k 1000000).fin er p).num≤9223372036854775807:=by
 rcases fin_num_or (outOf S p k 1000000) er p with q | q
 ·rw [q]
  rcases hk with rfl | rfl
  ·unfold outOf
   rw [if_pos rfl]
   split
   ·have:=byte_le S[p];simp only;omega
   ·simp
  ·rw [outOf_2]
   have:=lcount_le S.data.toList p 1000000 (by omega)
   simp only
   omega
 ·rw [q];omega
end Go.Proofs.YtekogckmgkodfaaGreatDoor.Code
