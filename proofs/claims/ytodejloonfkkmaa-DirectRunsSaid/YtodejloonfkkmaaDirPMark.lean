/-
  Package direct, walked: the places behind nodes are found.
-/
import Derived.Test.YtodejloonfkkmaaDirPRow
import Derived.Test.YtodejloonfkkmaaDirKid
set_option linter.unusedVariables false
set_option linter.unusedSimpArgs false
namespace Go.Proofs.Ytodejloonfkkmaa.Dir
open Go.RowKit Mem _root_.Go.Proofs.Ytodejloonfkkmaa.Arena _root_.Go.Proofs.Ytodejloonfkkmaa.Kinds _root_.Go.Proofs.Ytodejloonfkkmaa.Path _root_.Go.Proofs.Ytodejloonfkkmaa.Cat _root_.Go.Proofs.Ytodejloonfkkmaa.Suite _root_.Go.Proofs.Ytodejloonfkkmaa.Mach
attribute [local go_sem ↓] Go.wp_at_zero Go.wp_at_succ

/-- Between two places all is filled in; else it is as it was. -/
def Marked (xs : List Nd) (a b : Nat) (L L' : List Int) : Prop :=
  L'.length = L.length ∧ (∀ j, a ≤ j → j < b → ∀ m, scan 1 (xs.drop j) = some m → L'[j]? = some ((j + m : Nat) : Int)) ∧ ∀ j, (j < a ∨ b ≤ j) → L'[j]? = L[j]?
theorem Marked.refl (xs : List Nd) (a : Nat) (L : List Int) : Marked xs a a L L := ⟨rfl, fun j h1 h2 => absurd h2 (by omega), fun _ _ => rfl⟩
theorem Marked.trans {xs : List Nd} {a b c : Nat} {L L' L'' : List Int} (h : Marked xs a b L L') (k : Marked xs b c L' L'') (h1 : a ≤ b) (h2 : b ≤ c) : Marked xs a c L L'' := by
  refine ⟨k.1.trans h.1, fun j j1 j2 m hm => ?_, fun j hj => ?_⟩
  · by_cases q : j < b
    · rw [k.2.2 j (.inl q)]; exact h.2.1 j j1 q m hm
    · exact k.2.1 j (by omega) j2 m hm
  · rw [k.2.2 j (by omega), h.2.2 j (by omega)]
/-- The node itself, behind those below it. -/
theorem Marked.top {xs : List Nd} {a n : Nat} {L L' : List Int} (h : Marked xs (a + 1) (a + n) L L') (hn : 1 ≤ n) (hs : scan 1 (xs.drop a) = some n) (hl : a < L.length) : Marked xs a (a + n) L (L'.set a ((a + n : Nat) : Int)) := by
  refine ⟨by rw [List.length_set]; exact h.1, fun j j1 j2 m hm => ?_, fun j hj => ?_⟩
  · rw [List.getElem?_set]
    by_cases q : a = j
    · subst q
      rw [hs] at hm
      obtain rfl := Option.some.inj hm
      rw [if_pos rfl, if_pos (by rw [h.1]; exact hl)]
    · rw [if_neg q]; exact h.2.1 j (by omega) j2 m hm
  · rw [List.getElem?_set, if_neg (by omega)]; exact h.2.2 j (by omega)
/-- A run whose places behind nodes are not found yet. -/
structure MB (g bb base : Nat) (p : Prg) (bc : Nat) (L : List Int) (W : World) : Prop where
  c4 : W.cell? ⟨g, 4, none⟩ = some (.slice p.B p.xs.length p.e)
  c6 : W.cell? ⟨g, 6, none⟩ = some (.slice (some ⟨bb, 0, none⟩) p.xs.length bc)
  blk : Blk W bb 3 (icells L).toArray
  len : L.length = p.xs.length
  body : Nodes W base p.B p.xs
  hb : base ≤ bb
  hg : g ≠ bb
  gl : g < W.heap.size
  bl : base ≤ W.heap.size
section
variable {g bb base bc : Nat} {p : Prg} {L L' : List Int} {W W' : World}
theorem MB.keep (h : MB g bb base p bc L W) (k : Kept (· = bb) W W') (hB : Blk W' bb 3 (icells L').toArray) (hl : L'.length = p.xs.length) : MB g bb base p bc L' W' where
  c4 := (k.cell (p := ⟨g, 4, none⟩) h.gl h.hg).trans h.c4
  c6 := (k.cell (p := ⟨g, 6, none⟩) h.gl h.hg).trans h.c6
  blk := hB
  len := hl
  body := h.body.keep fun i q => k.block i (by have := h.bl; omega) (by have := h.hb; omega)
  hb := h.hb
  hg := h.hg
  gl := Nat.lt_of_lt_of_le h.gl k.size
  bl := Nat.le_trans h.bl k.size
theorem MB.below (h : MB g bb base p bc L W) (k : Below W.heap.size W W') : MB g bb base p bc L W' := h.keep (Kept.of_below k (Nat.le_refl _)) (h.blk.below k h.blk.lt) h.len
theorem MB.put (h : MB g bb base p bc L W) (i : Nat) (x : Int) : MB g bb base p bc (L.set i x) (W.setCell ⟨bb, i, none⟩ (.int .i64 x)) := by
  have B := h.blk.set i (.int .i64 x)
  rw [show (icells L).toArray.setIfInBounds i (.int .i64 x) = (icells (L.set i x)).toArray by rw [List.setIfInBounds_toArray, Mach.icells_set]] at B
  exact h.keep ((Kept.refl (· = bb) W).setCell (p := ⟨bb, i, none⟩) (.inl rfl) _) B (by rw [List.length_set]; exact h.len)
/-- What a node's marking comes to. -/
def MarkEnds (g bb base : Nat) (p : Prg) (bc k n : Nat) (L : List Int) (W : World) (e : Ending) (W' : World) : Prop :=
  e = .returned (.int .i64 ((k + n : Nat) : Int)) ∧ ∃ L', MB g bb base p bc L' W' ∧ Kept (· = bb) W W' ∧ Marked p.xs k (k + n) L L'
set_option maxRecDepth 100000 in
set_option maxHeartbeats 4000000 in
theorem mark_any (hlx : p.xs.length ≤ 1000000) (M : Nat) : ∀ (k n : Nat) (L : List Int) (W : World), n ≤ M → scan 1 (p.xs.drop k) = some n → MB g bb base p bc L W → Calls Try.prog 30 #[.pointer (some ⟨g, 0, none⟩), .int .i64 k] W (MarkEnds g bb base p bc k n L W) := by
  induction M with
  | zero =>
    intro k n L W hn h
    have := (scan_le _ _ _ h).1
    omega
  | succ M ih =>
    intro k n L W hn h hM
    obtain ⟨x, c, hx, har, hc, hcl, hsc, hn1, hkn, hks⟩ := dkid_scan h
    obtain ⟨ad, hB, -, d0, d1⟩ := hM.body k x hx
    have c4 := hM.c4
    rw [hB] at c4
    have i1 : (k : Int) < (p.xs.length : Int) := by omega
    have i2 : (0 : Int) ≤ (k : Int) := by omega
    have v1 : IntKind.i64.wrap ((k : Int) + 1) = (k : Int) + 1 := IntWalk.i64_in _ (by omega)
    have HAR := Lib.hid (fun W => Arity_any x.1 x.2 W)
    rw [show ar (x.1, x.2) = (c : Int) from har] at HAR
    have HIH := Lib.hid ih
    have HKS := Lib.hid hks
    have HSC := Lib.hid hsc
    have HH := Lib.hid h
    have HM := Lib.hid hM
    have HK := Lib.hid hkn
    have hll := hM.len
    clear ih hks hsc h hM hB har hx hcl hkn
    go_enter Try.func30, Try.ntmps30
    go_wp2_with (first | (go_at_call 26; (with_reducible refine (HAR.out _).mono ?_); rintro e w1 ⟨rfl, hb1⟩; have HM1 := Lib.hid (HM.out.below hb1); have HW1 := Lib.hid (show Kept (· = bb) W w1 from Kept.of_below hb1 (Nat.le_refl _))) | fail)
    clear c4 d0 d1
    go_loopw [16, 5] (fun i v wr => ∃ (j r : Nat) (L' : List Int), j ≤ c ∧ i = .int .i64 j ∧ v = .int .i64 ((k + 1 + r : Nat) : Int) ∧ scan j (p.xs.drop (k + 1)) = some r ∧ MB g bb base p bc L' wr ∧ Kept (· = bb) W wr ∧ Marked p.xs (k + 1) (k + 1 + r) L L') (fun i _ _ => c - (intOf i).toNat)
    case atStart => exact ⟨0, 0, L, Nat.zero_le _, rfl, by simp, scan_0 _, HM1.out, HW1.out, Marked.refl _ _ _⟩
    case round =>
      obtain ⟨j, r, L', hj, rfl, rfl, hr, hMr, hKr, hmr⟩ := hrel
      by_cases hlt : j < c
      · obtain ⟨r', m, s1, -, s3, s4, s5⟩ := HKS.out j hlt
        rw [hr] at s1
        obtain rfl := Option.some.inj s1
        have j1 : (j : Int) < (c : Int) := by omega
        have v2 : IntKind.i64.wrap ((j : Int) + 1) = (j : Int) + 1 := IntWalk.i64_in _ (by omega)
        have HC := Lib.hid (HIH.out (k + 1 + r) m L' wr (by omega) s3 hMr)
        have HS4 := Lib.hid s4
        have HMR := Lib.hid hmr
        have HKR := Lib.hid hKr
        clear s1 s3 s4 hr hMr hKr hmr
        generalize hq : ((k + 1 + r : Nat) : Int) = q at *
        go_wp2_with (first | (go_at_call 30; (with_reducible refine HC.out.mono ?_); rintro e w2 ⟨rfl, L2, hM2, hK2, hm2⟩) | fail)
        go_roundw
        case rel => exact ⟨j + 1, r + m, L2, hlt, by go_num, congrArg (Value.int .i64) (by omega), HS4.out, hM2, HKR.out.trans hK2, by rw [← Nat.add_assoc]; exact HMR.out.trans hm2 (by omega) (by omega)⟩
        case measure => simp [intOf]; omega
      · obtain rfl : j = c := by omega
        rw [HSC.out] at hr
        obtain rfl := Option.some.inj hr
        have j1 : ¬ (j : Int) < (j : Int) := by omega
        have hkk := HK.out
        have e0 : k + 1 + (n - 1) = k + n := by omega
        rw [e0] at hmr ⊢
        have c6 := hMr.c6
        obtain ⟨z, hz⟩ : ∃ z, L'[k]? = some z := ⟨_, List.getElem?_eq_getElem (by rw [hMr.len]; omega)⟩
        have cz : wr.cell? ⟨bb, k, none⟩ = some (.int .i64 z) := by
          rw [hMr.blk.cell]
          simp [icells, hz]
        have fz := hMr.blk.frozen k
        have HE := Lib.hid (show MarkEnds g bb base p bc k n L W (.returned (.int .i64 ((k + n : Nat) : Int))) _ from ⟨rfl, _, hMr.put k ((k + n : Nat) : Int), hKr.trans ((Kept.refl (· = bb) wr).setCell (p := ⟨bb, k, none⟩) (.inl rfl) (.int .i64 ((k + n : Nat) : Int))), hmr.top hn1 HH.out (by omega)⟩)
        clear hr hMr hKr hmr hz
        generalize ((k + n : Nat) : Int) = q at *
        go_wp2_with fail
        go_ret
        exact HE.out
end
end Go.Proofs.Ytodejloonfkkmaa.Dir
