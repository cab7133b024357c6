/-
  The Go text of package leb, walked: Put and Size, by the digits' contract.
-/
import Derived.Test.YthimplhfmamejaaLebIter
namespace Go.Proofs.Ythimplhfmamejaa.Leb
open Go.RowKit Go.Shelf

attribute [local go_sem] Oper.semAt_some

theorem info_u8 : (Try.prog.info? 5).map (fun i => (i.zero, i.size, i.bytes)) = some (some (.int .u8 0), 1, 1) := by kernel_rfl

/-- Ten cells of zero. -/
def z10 : Array Value := #[.int .u8 0, .int .u8 0, .int .u8 0, .int .u8 0, .int .u8 0, .int .u8 0, .int .u8 0, .int .u8 0, .int .u8 0, .int .u8 0]

theorem make10 (w : World) : (Instr.makeSlice 42 (.int .i64 0) (.int .i64 10)).run Try.prog w = .ok (.slice (some ⟨w.heap.size, 0, none⟩) 0 10) (w.alloc (.cells z10 5)) := by kernel_rfl

/-- A row of bytes that the call owns, as a string. -/
theorem conv_row (W : World) (base g k cap : Nat) (xs : List Int) (hrow : W.ownsRow base 5 1 (.slice (some ⟨g, 0, none⟩) k cap) k (xs.map (Value.int .u8))) :
    (convert 42 9 (.slice (some ⟨g, 0, none⟩) k cap)).run Try.prog W = .ok (.string (strOfNums xs)) W := by
  have hl : xs.length = k := by have := hrow.1; simpa using this
  refine run_convert_bytes_arg W _ _ Try.underlying42 Try.underlying5 g 0 k cap xs hl (fun i hi => ?_) _ Try.underlying9
  have hi' : i < xs.length := by omega
  have := hrow.cells (g := g) rfl i (.int .u8 (xs.getD i 0)) (by simp [List.getElem?_eq_getElem hi'])
  unfold Addr.add at this
  split at this
  · rename_i h; subst h; simpa using this
  · simpa using this

theorem str_lput (n : Nat) : strOfNums (digs n) = ⟨(lput n).toArray⟩ := by unfold strOfNums; rw [digs_bytes]

set_option maxRecDepth 100000 in
set_option maxHeartbeats 2000000 in
theorem Put_in (F : Fence) (n : Nat) (h3 : F.fn 23) (h4 : F.fn 37) (h5 : F.fn 47) (hro : F.round = none) (hn : 3 ≤ n) (x : Int) (hx0 : 0 ≤ x) (hx1 : x ≤ 18446744073709551615) (w : World) :
    CallsIn F n Try.prog 23 #[.int .u64 x] w fun e W' => e = .returned (.string ⟨(lput x.toNat).toArray⟩) ∧ Below w.heap.size w W' := by
  have h1 : 1 ≤ n := by omega
  have hmk := fun W => make10 W
  obtain ⟨i0, hi, hz0, hz1, hz2⟩ := info_parts info_u8
  refine callsIn_of_wp_marks Try.func23 rfl h3 ?_ hro
  simp only [Try.ntmps23, List.size_toArray, List.length_cons, List.length_nil, Nat.reduceAdd, Nat.reduceSub, Array.replicate_succ, Array.replicate_zero, List.push_toArray, List.append_toArray, List.nil_append, List.cons_append]
  gi_wp2_with (gi_at_call 37; refine (digits_in F (n - 1) h4 hro _ _).mono ?_; rintro e w' ⟨rfl, rfl⟩)
  have bO := Boxed.new (w.alloc (.cells z10 5)) 42 (.slice (some ⟨w.heap.size, 0, none⟩) 0 10)
  rw [World.size_alloc] at bO
  have bN := Boxed.new ((w.alloc (.cells z10 5)).alloc (.cells #[.slice (some ⟨w.heap.size, 0, none⟩) 0 10] 42)) 44 (.int .u64 x)
  rw [World.size_alloc, World.size_alloc] at bN
  have hr0 : (w.alloc (.cells z10 5)).ownsRow w.heap.size 5 1 (.slice (some ⟨w.heap.size, 0, none⟩) 0 10) 0 [] := World.ownsRow_made w z10 10 (Nat.le_refl _) (by decide) rfl
  have hB0 : Below w.heap.size w (((w.alloc (.cells z10 5)).alloc (.cells #[.slice (some ⟨w.heap.size, 0, none⟩) 0 10] 42)).alloc (.cells #[.int .u64 x] 44)) := (((Below.refl _ w).alloc (Nat.le_refl _) _).alloc (by simp) _).alloc (by simp; omega) _
  refine wpIn_rangeFunc_ownG hro h1 (gf := 47) (lb := #[.pointer (some ⟨w.heap.size + 1 + 1, 0, none⟩)]) rfl h5 (enters_of Try.func47 (by kernel_rfl) rfl)
    (digits_stops F (n - 1) h5 hro (by omega) (w.heap.size + 1 + 1) w.heap.size x hx0 hx1 _ (by simp) bN.cell) belowK_t (belowK_b (by simp; omega)) (Below.refl _ _) (fun _ => rfl)
    (fun (pre : List Int) W => (∃ v, Boxed W (w.heap.size + 1) 42 v ∧ W.ownsRow w.heap.size 5 1 v pre.length (pre.map (Value.int .u8)) ∧ True) ∧ Below w.heap.size w W)
    (fun _ _ _ => False)
    (OwnFrom.and (Own.from (holdsRow_own w.heap.size (w.heap.size + 1) 42 5 1 (fun pre : List Int => pre.length) (fun pre : List Int => pre.map (Value.int .u8)) (fun _ _ => True)) _) (ownFrom_below (Nat.le_refl _) (by simp; omega)))
    (fun _ _ _ _ _ hs _ _ => hs)
    ⟨⟨_, bO.alloc _, (hr0.alloc _).alloc _, trivial⟩, hB0⟩
    (fun d => { tmps := #[.int .u64 x, undef, .string { data := #[] }, .pointer (some ⟨w.heap.size + 1, 0, none⟩), .int .u8 d, .slice (some ⟨w.heap.size, 0, none⟩) 0 10, .int .u64 x, .func (.func 47) #[] #[.pointer (some ⟨w.heap.size + 1 + 1, 0, none⟩)], .int .u8 d, undef, undef, undef, undef, undef, undef], defers := [] }) ?assign ?body ?done ?stop
  case assign =>
    intro l x W K hK
    gi_wp2
    exact hK
  case body =>
    rintro l pre d W ⟨⟨v, hv, hrow, -⟩, hB⟩ hlt
    have hc := hv.cell
    gi_wp2_with (gi_at_builtin; refine wpListIn_append_own _ rfl _ _ 42 rfl w.heap.size 5 i0 (.int .u8 0) 1 1 Try.underlying42 hi hz0 hz1 hz2 rfl (by decide) _ _ _ rfl (hrow.alloc _) ⟨W.heap.size, 0, none⟩ 1 1 [.int .u8 d] rfl rfl (cell_one_new _ _ _) (by simp [Value.oneCell']) (by simp only [maxLen]; omega) (by omega) (by have := hB.size; simp; omega) ?_; intro v' w1 hown' hgrow _; obtain ⟨g', cap', rfl⟩ := ownsRow_succ hown'; obtain ⟨hv1, hv2, hr2, hk2, hb2⟩ := hv.appended (by decide) hrow hB.size (by omega) hown' hgrow; have hc1 := hv1.cell; have hf1 := hv1.frozen)
    exact ⟨hk2.from _, hb2, ⟨_, hv2, by simpa using hr2, trivial⟩, hB.trans hb2⟩
  case done =>
    rintro D ys W hD rfl ⟨⟨v, hv, hrow, -⟩, hB⟩ hK
    have hlen := digs_len x.toNat
    have hp := lput_pos x.toNat
    obtain ⟨k, hk⟩ : ∃ k, (digs x.toNat).length = k + 1 := ⟨(digs x.toNat).length - 1, by omega⟩
    rw [hk] at hrow
    obtain ⟨g, cap, rfl⟩ := ownsRow_succ hrow
    have hcv := conv_row W _ g (k + 1) cap _ hrow
    rw [str_lput] at hcv
    have hc := hv.cell
    have HK := Lib.hid hk
    clear hk hlen
    gi_wp2
    refine ⟨by simp, .inl ⟨_, _, rfl, run_takeDeferred hK, ?_⟩⟩
    exact ⟨_, results_tmp rfl _ _ _, rfl, hB.trans (belowK_b (w := w) (Nat.le_refl _) W D _ _ (by simp at hD; omega) hK rfl rfl)⟩
  case stop =>
    rintro D c pre W _ _ h _
    exact h.elim

/-- The contract, as a plain call. -/
theorem Put_any (x : Int) (hx0 : 0 ≤ x) (hx1 : x ≤ 18446744073709551615) (w : World) :
    Calls Try.prog 23 #[.int .u64 x] w fun e W' => e = .returned (.string ⟨(lput x.toNat).toArray⟩) ∧ Below w.heap.size w W' :=
  (callsIn_wide (n := 3)).1 (Put_in Fence.wide 3 trivial trivial trivial rfl (by omega) x hx0 hx1 w)

end Go.Proofs.Ythimplhfmamejaa.Leb
