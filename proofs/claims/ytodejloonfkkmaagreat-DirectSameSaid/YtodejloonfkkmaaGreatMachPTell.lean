/-
  Package machine, walked: a value is told; an event is stored; a node is entered.
-/
import Derived.Test.YtodejloonfkkmaaGreatMachPRow
import Derived.Test.YtodejloonfkkmaaGreatMachPSmall
import Derived.Deep.CutBlock
import Derived.Deep.CutRange
set_option linter.unusedVariables false
namespace Go.Proofs.YtodejloonfkkmaaGreat.Mach
open Go.RowKit Mem _root_.Go.Proofs.YtodejloonfkkmaaGreat.Arena _root_.Go.Proofs.YtodejloonfkkmaaGreat.Kinds _root_.Go.Proofs.YtodejloonfkkmaaGreat.Path _root_.Go.Proofs.YtodejloonfkkmaaGreat.Cat _root_.Go.Proofs.YtodejloonfkkmaaGreat.Suite
attribute [local go_sem ↓] Go.wp_at_zero Go.wp_at_succ

section
variable {K : PK} {κ : Nat → Nat} {evv sv : Value} {Y : List ((Option Addr × Nat) × List Int)} {s : St} {S : List Fr} {W W' : World}
/-- Where a stack lies that has a node. -/
theorem PM.top {f : Fr} (h : PM K κ evv sv Y s (f :: S) W) : ∃ b cap, sv = .slice (some ⟨b, 0, none⟩) (S.length + 1) cap ∧ sv.ownBlock = some b ∧ κ b = 5 ∧ b ≠ K.g ∧ (∀ j, W.cell? ⟨b, S.length * 8 + j, none⟩ = (fcell K.actv f)[j]? ∨ 8 ≤ j) ∧ (∀ j, W.frozen? ⟨b, j, none⟩ = false) ∧ S.length + 1 ≤ cap := by
  obtain ⟨b, cap, rfl, hb⟩ := own_block h.sr (by simp)
  have h5 := h.lab.s b hb
  refine ⟨b, cap, rfl, hb, h5, fun e => by rw [e, h.lab.g] at h5; omega, fun j => ?_, fun j => ?_, ?_⟩
  · by_cases hj : 8 ≤ j
    · exact .inr hj
    · left
      rw [World.ownsRow.cellAt h.sr (S.length * 8 + j) (by simp only [List.length_cons]; omega), fcells_get]
  · exact World.ownsRow.frozenAt h.sr j
  · rcases h.sr.2 with ⟨q, -⟩ | ⟨g', cap', cur, q, -, -, hn, -⟩
    · cases q
    · cases q
      simpa using hn
/-- A stack without nodes is a slice. -/
theorem PM.bare (h : PM K κ evv sv Y s [] W) : ∃ A c, sv = .slice A 0 c := by
  rcases h.sr.2 with ⟨q, -⟩ | ⟨g', cap', cur, q, -⟩
  · exact ⟨_, _, q⟩
  · exact ⟨_, _, q⟩
set_option maxRecDepth 100000 in
theorem tell_nil (h : PM K κ evv sv Y s [] W) (ho : s.over = false) (v : Int) : Calls Tryz.prog 108 #[.pointer (some ⟨K.g, 0, none⟩), .int .i64 v] W (Turn K κ W (tellC v (s, []))) := by
  obtain ⟨A, c, rfl⟩ := h.bare
  have c10 : W.cell? ⟨K.g, 10, none⟩ = some (.slice A 0 c) := h.cell 10
  have HF := Lib.hid (Turn.on (c := tellC v (s, [])) h (Went.refl _ _) ho)
  clear h
  go_enter Tryz.func108, Tryz.ntmps108
  go_wp2_with fail
  go_ret
  exact HF.out
set_option maxRecDepth 100000 in
theorem tell_cons {f : Fr} (h : PM K κ evv sv Y s (f :: S) W) (ho : s.over = false) (v : Int) (hl : S.length < 1000000) : Calls Tryz.prog 108 #[.pointer (some ⟨K.g, 0, none⟩), .int .i64 v] W (Turn K κ W (tellC v (s, f :: S))) := by
  obtain ⟨b, cap, rfl, hb, hb5, hne, hc, hfr, -⟩ := h.top
  have c10 : W.cell? ⟨K.g, 10, none⟩ = some (.slice (some ⟨b, 0, none⟩) (S.length + 1) cap) := h.cell 10
  have hc5 : W.cell? ⟨b, S.length * 8 + 5, none⟩ = some (.int .i64 f.fst) := (hc 5).resolve_right (by omega)
  have hc6 : W.cell? ⟨b, S.length * 8 + 6, none⟩ = some (.int .i64 f.lst) := (hc 6).resolve_right (by omega)
  have hf5 := hfr (S.length * 8 + 5)
  have hf6 := hfr (S.length * 8 + 6)
  have hlt := (h.lab.lt b (by omega)).2
  have h1 := h.set_s hb (S.length * 8 + 5) (.int .i64 f.lst) (S' := { f with fst := f.lst } :: S) rfl (by rw [fcells_set]; rfl)
  have h2 := h1.set_s hb (S.length * 8 + 6) (.int .i64 v) (S' := { f with fst := f.lst, lst := v } :: S) rfl (by rw [fcells_set]; rfl)
  have hw := ((Went.refl κ W).setCell (a := ⟨b, S.length * 8 + 5, none⟩) (.inl (by show κ b ≠ 0; omega)) (.int .i64 f.lst)).setCell (a := ⟨b, S.length * 8 + 6, none⟩) (.inl (by show κ b ≠ 0; omega)) (.int .i64 v)
  have HF := Lib.hid (Turn.on (c := tellC v (s, f :: S)) h2 hw ho)
  clear h h1 h2 hw hc hfr hb hb5
  generalize hn : S.length = n at c10 hc5 hc6 hf5 hf6 hl HF
  have v1 : IntKind.i64.wrap (n : Int) = n := IntWalk.i64_in _ (by omega)
  clear hn
  go_enter Tryz.func108, Tryz.ntmps108
  go_wp2_with fail
  go_ret
  exact HF.out
theorem tell_any (h : PM K κ evv sv Y s S W) (ho : s.over = false) (v : Int) (hl : S.length < 1000000) : Calls Tryz.prog 108 #[.pointer (some ⟨K.g, 0, none⟩), .int .i64 v] W (Turn K κ W (tellC v (s, S))) := by
  cases S with
  | nil => exact tell_nil h ho v
  | cons f S => exact tell_cons h ho v (by simp at hl; omega)
set_option maxRecDepth 100000 in
/-- An event is stored, and 0 told. -/
theorem store_any (h : PM K κ evv sv Y s S W) (ho : s.over = false) (hl : S.length < 1000000) (hle : s.ev.length < 1000000) (i a b : Int) : Calls Tryz.prog 114 #[.pointer (some ⟨K.g, 0, none⟩), .int .i64 i, .int .i64 a, .int .i64 b] W (Turn K κ W (tellC 0 ({ s with ev := s.ev ++ [(i, a, b)] }, S))) := by
  have c3 : W.cell? ⟨K.g, 3, none⟩ = some evv := h.cell 3
  have f3 := h.blk.frozen 3
  have hlt := h.glt
  have hbs := h.cn.size
  have bX := Blk.new W 86 #[.int .i64 i, .int .i64 a, .int .i64 b]
  have hb1 := (Below.refl W.heap.size W).alloc (Nat.le_refl _) (.cells #[.int .i64 i, .int .i64 a, .int .i64 b] 86)
  have h1 := h.below hb1
  have H1 := Lib.hid h1
  have HW1 := Lib.hid ((Went.refl κ W).below hb1)
  have hO1 := h1.er
  have HO := Lib.hid ho
  clear h h1 hb1
  go_enter Tryz.func114, Tryz.ntmps114
  go_wp2_with (first
    | (at_builtin; refine append_event rfl _ _ rfl K.base (by simp; omega) _ s.ev rfl hO1 W.heap.size (i, a, b) rfl bX (by omega) ?_; intro v' w' hown hgr hat; obtain ⟨b', cap', rfl, hb'⟩ := own_block hown (by omega); have f3' := (H1.out.blk.grown hgr (fun z => by have q := H1.out.lab.e K.g z.symm; rw [H1.out.lab.g] at q; omega)).frozen 3; have c3' := (H1.out.blk.grown hgr (fun z => by have q := H1.out.lab.e K.g z.symm; rw [H1.out.lab.g] at q; omega)).cell 3
       obtain ⟨e1, e2⟩ := H1.out.event (e := (i, a, b)) hgr hown hat
       have hk := (HW1.out.grown hgr (fun k q => by rw [H1.out.lab.e k q]; decide)).setCell (a := ⟨K.g, 3, none⟩) (.inl (by rw [H1.out.lab.g]; decide)) (.slice (some ⟨b', 0, none⟩) (s.ev.length + 1) cap')
       have hwt : Went κ (relabP 4 κ (.slice (some ⟨b', 0, none⟩) (s.ev.length + 1) cap')) W (w'.setCell ⟨K.g, 3, none⟩ (.slice (some ⟨b', 0, none⟩) (s.ev.length + 1) cap')) := ⟨hk.kept, fun k q => by
          rcases e2 k q with c | c
          · exact .inl c
          · exact .inr (by simp at c; omega)⟩
       have HT := Lib.hid (tell_any e1 (show _ = false from HO.out) 0 hl)
       have HWT := Lib.hid hwt
       clear e1 e2 hk hwt hgr hown hat hb')
    | (go_at_call 108; refine HT.out.mono ?_; rintro e w2 hT; have HTT := Lib.hid (hT.then HWT.out); obtain ⟨_, _, _, _, v, -, -, rfl, -⟩ := hT))
  go_ret
  exact HTT.out
theorem info_frame : (Tryz.prog.info? 161).map (fun i => (i.zero, i.size, i.bytes)) = some (some (.agg #[.int .i64 0, .int .i64 0, .int .i64 0, .int .i64 0, .int .i64 0, .int .i64 0, .int .i64 0, .nilFunc]), 8, 64) := by kernel_rfl
theorem ActV.one {W : World} {C : Nat → Prop} {t : Int} {v : Value} (h : ActV W C t v) : ∃ f cs, v = .func (.func f) #[] cs := by
  unfold ActV at h
  rcases h with ⟨-, h⟩ | ⟨-, h⟩ | ⟨-, h⟩ | ⟨-, h⟩ | ⟨-, h⟩ | ⟨-, h⟩ | ⟨-, h⟩ | ⟨-, h⟩ | ⟨-, h⟩ | ⟨-, b, h, -⟩ | ⟨b, q, -, h, -⟩ | ⟨b, c, q, -, h, -⟩ | ⟨b, c, q, -, h, -⟩
  all_goals exact ⟨_, _, h⟩
theorem key_int16 : Go.Maps.Keyed Tryz.prog 3 := Go.Maps.int_keyed Tryz.underlying3
theorem nil_act (w : World) : (zeroValue 154).run Tryz.prog w = .ok .nilFunc w := by kernel_rfl
set_option maxRecDepth 100000 in
/-- A look into the map of what nodes do. -/
theorem lookA {w : World} {b : Nat} {u : Int → Value} (h : w.ownsMap Tryz.prog 3 itselfA b 26 (tableA u)) (t : Int) (h1 : 1 ≤ t) (h2 : t ≤ 26) : (Instr.lookup 61 (.map (some b)) (.int .i64 t) false).run Tryz.prog w = .ok (u t) w := by
  obtain ⟨n, rfl⟩ := Int.eq_ofNat_of_zero_le (show 0 ≤ t by omega)
  have hw : (Lit.int .i64 (n : Int)).wf = true := by
    have h0 : (List.range 27).all (fun t => (Lit.int .i64 (t : Int)).wf) = true := by decide +kernel
    exact List.all_eq_true.1 h0 n (List.mem_range.2 (by omega))
  obtain ⟨v, ps, hrun, hv⟩ := h.lookup (t := 61) key_int16 Tryz.underlying61 (nil_act w) (zd := .held .nilFunc) (zp := []) rfl (Go.Maps.keyOf_int_mk Tryz.underlying3 hw)
  have hat : (tableA u).atKey (.int .i64 n) (.held .nilFunc) = .held (u n) := by
    rcases (show n = 1 ∨ n = 2 ∨ n = 3 ∨ n = 4 ∨ n = 5 ∨ n = 6 ∨ n = 7 ∨ n = 8 ∨ n = 9 ∨ n = 10 ∨ n = 11 ∨ n = 12 ∨ n = 13 ∨ n = 14 ∨ n = 15 ∨ n = 16 ∨ n = 17 ∨ n = 18 ∨ n = 19 ∨ n = 20 ∨ n = 21 ∨ n = 22 ∨ n = 23 ∨ n = 24 ∨ n = 25 ∨ n = 26 by omega) with rfl | rfl | rfl | rfl | rfl | rfl | rfl | rfl | rfl | rfl | rfl | rfl | rfl | rfl | rfl | rfl | rfl | rfl | rfl | rfl | rfl | rfl | rfl | rfl | rfl | rfl
    all_goals kernel_rfl
  rw [hat] at hv
  cases hv
  exact hrun
end
end Go.Proofs.YtodejloonfkkmaaGreat.Mach
