/-
  The laws of layer 7, walked: bits turned are found out.
-/
import Derived.Test.YtfjdbbhaigjbmaaGreatContCut
import Derived.Test.YtfjdbbhaigjbmaaGreatFrameG
import Derived.Test.YtfjdbbhaigjbmaaGreatCrcG
namespace Go.Proofs.YtfjdbbhaigjbmaaGreat.Cont
open Go.RowKit Leb Mem _root_.Go.Proofs.YtfjdbbhaigjbmaaGreat.Frame
set_option linter.unusedVariables false

theorem seal_parts {L Q : List Sec} {X : Sec} {r : List UInt8} (h : sealC (L ++ X :: Q) = (r, 0)) :
    ∃ U V, r = U ++ (X.2 ++ Crc.tail (head X.1 X.2 ++ X.2)) ++ V ∧ U.length = 7 + (body L).length + (head X.1 X.2).length := by
  obtain ⟨-, hr, -⟩ := seal_is h
  refine ⟨magic ++ body L ++ head X.1 X.2, body Q ++ index (L ++ X :: Q) ++ Crc.tail (index (L ++ X :: Q)) ++ foot (7 + (body (L ++ X :: Q)).length), ?_, ?_⟩
  · rw [hr]
    generalize index (L ++ X :: Q) = I
    generalize foot (7 + (body (L ++ X :: Q)).length) = F
    rw [body_append, body]
    unfold fput
    simp only [List.append_assoc]
  · simp [magic_len]; omega
theorem secs_split (xs : List Sect) (n : Nat) (x : Sect) (h : xs[n]? = some x) : secs xs = secs (xs.take n) ++ (x.t, x.d.data.toList) :: secs (xs.drop (n + 1)) := by
  obtain ⟨hn, rfl⟩ := List.getElem?_eq_some_iff.1 h
  unfold secs
  conv => lhs; rw [← List.take_append_drop n xs, List.drop_eq_getElem_cons hn]
  rw [List.map_append, List.map_cons]
theorem cut3 (U Y V : List UInt8) : (str (U ++ Y ++ V)).extract 0 U.length = str U ∧ (str (U ++ Y ++ V)).extract U.length (U.length + Y.length) = str Y ∧ (str (U ++ Y ++ V)).extract (U.length + Y.length) (str (U ++ Y ++ V)).size = str V := by
  refine ⟨?_, ?_, ?_⟩
  · rw [extract_str, str_list, List.drop_zero, Nat.sub_zero, List.append_assoc, List.take_left]
  · rw [extract_str, str_list, List.append_assoc, List.drop_left, Nat.add_sub_cancel_left, List.take_left]
  · rw [extract_str, str_list, str_size, ← List.length_append, List.drop_left, List.take_of_length_le]
    simp only [List.length_append]; omega

end Go.Proofs.YtfjdbbhaigjbmaaGreat.Cont
