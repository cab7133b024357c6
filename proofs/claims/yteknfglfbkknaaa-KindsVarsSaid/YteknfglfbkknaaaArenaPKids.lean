/-
  Package arena, walked: a node's kids.
-/
import Derived.Test.YteknfglfbkknaaaArenaTog
import Derived.Test.YteknfglfbkknaaaArenaPEnd
import Derived.Laws.MakeOwn
import Derived.Laws.OwnMore
namespace Go.Proofs.Yteknfglfbkknaaa.Arena
open Go.RowKit Mem

/-- A row of numbers that the call owns, as numbers. -/
theorem own_ints {w : World} {base : Nat} {v : Value} {ks : List Int} (h : w.ownsRow base 3 1 v ks.length (icells ks)) :
    ∃ A c, v = .slice A ks.length c ∧ IRow w w.heap.size A ks ∧ ∀ ad, A = some ad → base ≤ ad.block := by
  have hc := fun g hg => h.cells (g := g) hg
  rcases h.2 with ⟨rfl, h0⟩ | ⟨g, cap, cur, rfl, hbg, hg, hn, -⟩
  · obtain rfl := List.length_eq_zero_iff.1 h0
    exact ⟨none, 0, rfl, fun i x h => by simp at h, fun ad e => by cases e⟩
  · refine ⟨_, _, rfl, fun i x hx => ⟨_, rfl, (Array.getElem?_eq_some_iff.1 hg).1, ?_⟩, fun ad e => by cases e; exact hbg⟩
    exact hc g rfl _ _ (by unfold icells; rw [List.getElem?_map, hx]; rfl)

/-- What a function that tells numbers comes to. -/
def IntsEnds (ks : List Int) (w : World) (e : Ending) (w' : World) : Prop :=
  Below w.heap.size w w' ∧ ∃ A c, e = .returned (.slice A ks.length c) ∧ IRow w' w'.heap.size A ks ∧ ∀ ad, A = some ad → w.heap.size ≤ ad.block
theorem KidsEnds.ints {ks : List Int} {w w' : World} {e : Ending} (h : KidsEnds ks w e w') : IntsEnds ks w e w' := by
  obtain ⟨hb, v, rfl, ho⟩ := h
  obtain ⟨A, c, rfl, hr, hf⟩ := own_ints ho
  exact ⟨hb, A, c, rfl, hr, hf⟩

theorem icells_set (done : List Int) (p : Int) (m : Nat) : (icells (done ++ List.replicate (m + 1) 0)).set done.length (.int .i64 p) = icells ((done ++ [p]) ++ List.replicate m 0) := by
  unfold icells
  rw [List.replicate_succ]
  simp

set_option maxRecDepth 100000 in
set_option maxHeartbeats 2000000 in
theorem Kids_any (A : Option Addr) (cap : Nat) (xs : List Nd) (a : Int) (w : World) (hx : Nodes w w.heap.size A xs) (hl : xs.length ≤ 1000000) :
    Calls Try.prog 21 #[.slice A xs.length cap, .int .i64 a] w (IntsEnds (akids xs a) w) := by
  have HX := Lib.hid hx
  have HE := Lib.hid (fun b W hW => End_any A cap xs b W hW hl)
  clear hx
  rcases aend_cases xs a with he | ⟨k0, n, rfl, hs, he, hn1, hn2⟩
  · rw [kids_neg (by omega)]
    have HE0 := Lib.hid (fun W (hW : Nodes W W.heap.size A xs) => HE.out a W hW)
    rw [he] at HE0
    clear he HE
    go_enter Try.func21, Try.ntmps21
    go_wp2_with (go_at_call 23; refine (HE0.out _ HX.out).mono ?_; rintro e w1 ⟨rfl, hb1⟩)
    go_ret
    exact ⟨hb1, none, 0, rfl, fun i x h => by simp at h, fun ad e => by cases e⟩
  · obtain ⟨x, hxk, h0, hk, -, -, -⟩ := node_kids hs
    obtain ⟨c, hc⟩ := Int.eq_ofNat_of_zero_le h0
    rw [hc, Int.toNat_natCast] at hk
    have hc2 := (ar_le x).2
    have hc200 : c ≤ 200 := by omega
    have HK := Lib.hid hk
    have HE0 := Lib.hid (fun W (hW : Nodes W W.heap.size A xs) => HE.out (k0 : Int) W hW)
    rw [he] at HE0
    have hne : ((k0 : Int) + (n : Int) == -1) = false := by rw [beq_eq_false_iff_ne]; omega
    have v1 : IntKind.i64.wrap ((k0 : Int) + 1) = (k0 : Int) + 1 := IntWalk.i64_in _ (by omega)
    have i1 : (k0 : Int) < (xs.length : Int) := by omega
    have i2 : (0 : Int) ≤ (k0 : Int) := by omega
    have HA := Lib.hid (fun W => Arity_any x.1 x.2 W)
    rw [show ar (x.1, x.2) = (c : Int) from hc] at HA
    obtain ⟨ig, hig, hz0, hz1, hz2⟩ := info_parts info_int
    have hmk : ∀ W : World, (Instr.makeSlice 22 (.int .i64 (c : Int)) (.int .i64 (c : Int))).run Try.prog W = .ok (.slice (some ⟨W.heap.size, 0, none⟩) c c) (W.alloc (.cells (madeCells #[.int .i64 0] c) 3)) := fun W => by
      have := run_make (P := Try.prog) W 22 3 ig _ Try.underlying22 hig hz0 .i64 .i64 (c : Int) (c : Int) (by omega) (by omega) (by rw [hz2]; omega) (by omega)
      rw [hz1, Int.toNat_natCast, Nat.mul_one] at this
      exact this
    rw [show ((k0 + 1 : Nat) : Int) = (k0 : Int) + 1 by omega] at HK
    obtain ⟨ad, rfl, hbk, h0', h1'⟩ := HX.out k0 x hxk
    have HXK := Lib.hid hxk
    clear he hk hc hxk h0 hs
    go_enter Try.func21, Try.ntmps21
    go_wp2_with (first
      | (go_at_call 23; refine (HE0.out _ HX.out).mono ?_; rintro e w1 ⟨rfl, hb1⟩; obtain ⟨ad', q, hbk', g0, g1⟩ := (HX.out.below hb1) k0 x HXK.out; cases q)
      | (go_at_call 37; refine (HA.out _).mono ?_; rintro e w2 ⟨rfl, hb2⟩))
    have hB2 := hb1.trans (hb2.mono hb1.size)
    have hO := World.ownsRow_lit (e := 3) (size := 1) (base := w.heap.size) w2 (madeCells #[.int .i64 0] c) c hB2.size (by simp only [maxLen]; omega) (by rw [size_madeCells, Nat.mul_one])
    have hB3 := hB2.alloc hB2.size (.cells (madeCells #[.int .i64 0] c) 3)
    rw [toList_madeCells_one] at hO
    obtain ⟨g, hg⟩ : ∃ g, w2.heap.size = g := ⟨_, rfl⟩
    rw [hg] at hO ⊢
    have hgb : w.heap.size ≤ g := hg ▸ hB2.size
    generalize w2.alloc (.cells (madeCells #[.int .i64 0] c) 3) = w3 at *
    clear hmk HE0 HA hb1 hb2 hB2 hg g0 g1 h0' h1'
    go_loopw [6, 22] (fun q i wr => ∃ (j : Nat) (done : List Int) (p : Int), j ≤ c ∧ i = .int .i64 j ∧ q = .int .i64 p ∧ done.length = j ∧ akids xs k0 = done ++ kidsFrom xs (c - j) p ∧ wr.ownsRow w.heap.size 3 1 (.slice (some ⟨g, 0, none⟩) c c) c (icells (done ++ List.replicate (c - j) 0)) ∧ Below w.heap.size w wr) (fun _ i _ => c - (intOf i).toNat)
    case atStart => exact ⟨0, [], (k0 : Int) + 1, by omega, rfl, rfl, rfl, HK.out, by simpa [icells] using hO, hB3⟩
    case round =>
      obtain ⟨j, done, p, hj, rfl, rfl, hdl, hdn, hO, hB⟩ := hrel
      by_cases hlt : j < c
      · have hst : akids xs k0 = (done ++ [p]) ++ kidsFrom xs (c - (j + 1)) (aend xs p) := by
          rw [hdn, show c - j = (c - (j + 1)) + 1 by omega, kidsFrom, List.append_assoc]; rfl
        have hcell : wr.cell? ⟨g, j, none⟩ = some (.int .i64 0) := by
          rw [hO.cellAt j (by omega)]
          unfold icells
          rw [List.getElem?_map, List.getElem?_append_right (by omega), hdl, Nat.sub_self, show c - j = (c - (j + 1)) + 1 by omega]
          rfl
        have hfz := hO.frozenAt j
        obtain ⟨hO1, hg1⟩ := hO.stored j (.int .i64 p)
        have hB1 := hB.grown hg1 hB.size (fun i e => by cases e; exact hgb)
        rw [show c - j = (c - (j + 1)) + 1 by omega] at hO1
        have hO2 := hO1
        rw [show (icells (done ++ List.replicate ((c - (j + 1)) + 1) 0)).set j (.int .i64 p) = icells ((done ++ [p]) ++ List.replicate (c - (j + 1)) 0) by rw [← hdl, icells_set]] at hO2
        have HS := Lib.hid hst
        have HDL := Lib.hid hdl
        have j1 : (j : Int) < (c : Int) := by omega
        have j2 : (0 : Int) ≤ (j : Int) := by omega
        clear hst hdn hO1 hO hdl
        go_wp2_with (first
          | (go_at_call 23; refine (HE.out _ _ (Nodes.at HX.out hB1)).mono ?_; rintro e w8 ⟨rfl, hb8⟩))
        go_roundw
        case rel => exact ⟨j + 1, done ++ [p], _, by omega, by go_num, rfl, by rw [List.length_append, HDL.out]; rfl, HS.out, own_of_block hO2 (fun i hi => hb8.block i (hO2.lt i hi).2), hB1.trans (hb8.mono hB1.size)⟩
        case measure => simp [intOf]; omega
      · have hj9 : j = c := by omega
        subst hj9
        have hd : akids xs k0 = done := by rw [hdn, Nat.sub_self, kidsFrom, List.append_nil]
        rw [Nat.sub_self, List.replicate_zero, List.append_nil] at hO
        have hO' := hO
        rw [← hdl] at hO'
        obtain ⟨A2, c2, hv, hR, hF⟩ := own_ints hO'
        rw [hdl] at hv
        have HD := Lib.hid hdl
        have HV := Lib.hid hv
        have HK2 := Lib.hid hd
        have j1 : ¬ (j : Int) < (j : Int) := by omega
        clear hdl hv hO hO' hdn hd
        go_wp2
        go_ret
        exact ⟨hB, A2, c2, by rw [HK2.out, HD.out, ← HV.out]; rfl, by rw [HK2.out]; exact hR, hF⟩

end Go.Proofs.Yteknfglfbkknaaa.Arena
