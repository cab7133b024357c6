/-
  The reference of containers, walked: sections are sealed.
-/
import Derived.Test.YtfjdbbhaigjbmaaContIdx
import Derived.Test.YtfjdbbhaigjbmaaFrameG
namespace Go.Proofs.Ytfjdbbhaigjbmaa.Cont
open Go.RowKit Leb Mem _root_.Go.Proofs.Ytfjdbbhaigjbmaa.Frame

/-- What sealing comes to. -/
def SealEnds (l : List Sec) (w : World) (e : Ending) (w' : World) : Prop :=
  e = .returned (.tuple #[.string (str (sealC l).1), .int .i64 (sealC l).2]) ∧ Below w.heap.size w w'
theorem SealEnds.mk {l : List Sec} {s : ByteArray} {w w' : World} {r : List UInt8} {c : Int} (h : sealC l = (r, c)) (hs : s = str r) (hb : Below w.heap.size w w') : SealEnds l w (.returned (.tuple #[.string s, .int .i64 c])) w' :=
  ⟨by rw [h, hs], hb⟩
theorem SealEnds.to {l : List Sec} {w w' : World} {e : Ending} {r : List UInt8} {c : Int} (h : SealEnds l w e w') (hl : sealC l = (r, c)) : e = .returned (.tuple #[.string (str r), .int .i64 c]) ∧ Below w.heap.size w w' := by
  obtain ⟨h1, h2⟩ := h
  rw [hl] at h1
  exact ⟨h1, h2⟩

theorem fPut_ok {x : Sec} (h0 : 1 ≤ x.1) (h1 : x.1 ≤ 255) (h2 : x.2.length ≤ 1048576) : fPut x.1 x.2 = (fput x.1 x.2, 0) := by
  unfold fPut; rw [if_neg (by omega), if_neg (by omega)]
theorem secs_mem {xs : List Sect} {i : Nat} {x : Sect} (h : xs[i]? = some x) : (x.t, x.d.data.toList) ∈ secs xs := by
  unfold secs; exact List.mem_map.2 ⟨x, List.mem_of_getElem? h, rfl⟩
theorem body_take_le (l : List Sec) (k : Nat) : (body (l.take k)).length ≤ (body l).length := by
  conv => rhs; rw [← List.take_append_drop k l]
  rw [body_append, List.length_append]
  omega
theorem secs_take_eq (xs : List Sect) (k : Nat) : secs (xs.take k) = (secs xs).take k := by unfold secs; rw [List.map_take]

end Go.Proofs.Ytfjdbbhaigjbmaa.Cont
