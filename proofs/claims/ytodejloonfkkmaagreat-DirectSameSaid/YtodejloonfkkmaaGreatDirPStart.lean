/-
  Package direct, walked: a run is made.
-/
import Derived.Test.YtodejloonfkkmaaGreatDirG
import Derived.Test.YtodejloonfkkmaaGreatDirH
import Derived.Test.YtodejloonfkkmaaGreatKindsP
import Derived.Deep.CutBlock
import Derived.Deep.CutRange
import Derived.Laws.MakeOwn
set_option linter.unusedVariables false
set_option linter.unusedSimpArgs false
namespace Go.Proofs.YtodejloonfkkmaaGreat.Dir
open Go.RowKit Mem _root_.Go.Proofs.YtodejloonfkkmaaGreat.Arena _root_.Go.Proofs.YtodejloonfkkmaaGreat.Kinds _root_.Go.Proofs.YtodejloonfkkmaaGreat.Path _root_.Go.Proofs.YtodejloonfkkmaaGreat.Cat _root_.Go.Proofs.YtodejloonfkkmaaGreat.Suite _root_.Go.Proofs.YtodejloonfkkmaaGreat.Mach
attribute [local go_sem ↓] Go.wp_at_zero Go.wp_at_succ

/-- As many values as a variable of a type has. -/
def vsz (t : Int) : Nat := if asz t = 0 then 1 else (asz t).toNat
/-- So many variables are made. -/
def Making (p : Prg) (F : Nat) (w : World) (g bb ab k : Nat) (W : World) : Prop :=
  ∃ κ Y, MkD (dkOf p F w.heap.size g bb ab) κ Y W ∧ (∀ j t, j < k → p.vs[j]? = some t → (Y[j]?).map (·.2) = some (List.replicate (vsz t) 0)) ∧ (∀ j, k ≤ j → j < p.vs.length → Y[j]? = some ((none, 0), [])) ∧ Y.length = p.vs.length ∧ Below w.heap.size w W
/-- An argument more. -/
theorem begin_arg {vs args : List Int} (F k : Nat) {x : Int} (hx : args[k]? = some x) (hl : args.length ≤ vs.length) : (begin_ vs (args.take (k + 1)) F).vals = (begin_ vs (args.take k) F).vals.set k x := by
  have hk := (List.getElem?_eq_some_iff.1 hx).1
  show (List.range vs.length).map (fun i => (args.take (k + 1)).getD i 0) = ((List.range vs.length).map (fun i => (args.take k).getD i 0)).set k x
  apply List.ext_getElem?
  intro j
  rw [List.getElem?_set, List.getElem?_map, List.getElem?_map]
  simp only [List.length_map, List.length_range]
  by_cases hj : j < vs.length
  · rw [List.getElem?_range hj]
    simp only [Option.map_some, List.getD_eq_getElem?_getD, List.getElem?_take]
    by_cases q : k = j
    · subst q
      rw [if_pos (by omega), if_pos rfl, if_pos hj, hx]; rfl
    · rw [if_neg q]
      by_cases z : j < k
      · rw [if_pos (by omega), if_pos z]
      · rw [if_neg (by omega), if_neg z]
  · rw [List.getElem?_eq_none (l := List.range vs.length) (by rw [List.length_range]; omega)]
    simp only [Option.map_none]
    by_cases q : k = j
    · omega
    · rw [if_neg q]
/-- All variables are made. -/
theorem Making.all {p : Prg} {F : Nat} {w : World} {g bb ab : Nat} {W : World} (h : Making p F w g bb ab p.vs.length W) : (∃ κ Y, DM (dkOf p F w.heap.size g bb ab) κ (.slice none 0 0) Y (begin_ p.vs [] F) 0 W) ∧ Below w.heap.size w W := by
  obtain ⟨κ, Y, hM, h1, -, hl, hB⟩ := h
  refine ⟨⟨κ, Y, hM.dm ?_ rfl rfl⟩, hB⟩
  apply List.ext_getElem?
  intro j
  show (Y.map (·.2))[j]? = (dcells p.vs (begin_ p.vs [] F))[j]?
  by_cases hj : j < p.vs.length
  · obtain ⟨t, ht⟩ : ∃ t, p.vs[j]? = some t := ⟨_, List.getElem?_eq_getElem hj⟩
    rw [List.getElem?_map, h1 j t hj ht, dcells_get hj]
    unfold dcell vsz
    rw [List.getD_eq_getElem?_getD, ht]
    simp only [Option.getD_some]
    by_cases z : asz t = 0
    · rw [if_pos z, if_pos z]
      show some [0] = some [((List.range p.vs.length).map fun i => ([] : List Int).getD i 0).getD j 0]
      rw [List.getD_eq_getElem?_getD, List.getElem?_map, List.getElem?_range hj]; rfl
    · rw [if_neg z, if_neg z]
      show some _ = some ((p.vs.map fun t => List.replicate (asz t).toNat (0 : Int)).getD j [])
      rw [List.getD_eq_getElem?_getD, List.getElem?_map, ht]; rfl
  · rw [List.getElem?_eq_none (by rw [List.length_map]; omega), List.getElem?_eq_none (by rw [dcells_len]; omega)]
/-- A variable is made. -/
theorem Making.next {p : Prg} {F : Nat} {w : World} {g bb ab k : Nat} {t : Int} {W : World} (h : Making p F w g bb ab k W) (ht : p.vs[k]? = some t) {z : Nat} (hz : vsz t = z) (hzm : z ≤ maxLen) :
    Making p F w g bb ab (k + 1) ((W.alloc (.cells (madeCells #[.int .i64 0] z) 3)).setCell ⟨ab, k, none⟩ (.slice (some ⟨W.heap.size, 0, none⟩) z z)) := by
  obtain ⟨κ, Y, hM, h1, h2, hl, hB⟩ := h
  have hk := (List.getElem?_eq_some_iff.1 ht).1
  have hbs := hM.size
  have hb : Below W.heap.size W (W.alloc (.cells (madeCells #[.int .i64 0] z) 3)) := (Below.refl _ _).alloc (Nat.le_refl _) _
  have hκ : κ W.heap.size = 0 := by
    by_cases q : κ W.heap.size = 0
    · exact q
    · have := (hM.lab.lt _ q).2; omega
  have hL := World.ownsRow_lit (e := 3) (size := 1) (base := w.heap.size) W (madeCells #[.int .i64 0] z) z hbs hzm (by rw [size_madeCells, Nat.mul_one])
  rw [toList_madeCells_one] at hL
  obtain ⟨κ', hM'⟩ := (hM.below hb).put (nb := W.heap.size) (z := z) (i := k) (ab := ab) (ac := p.vs.length) rfl hk hκ hbs (by simp) (by simpa [icells, dkOf] using hL) (h2 k (Nat.le_refl _) hk)
  have hal := (hM.lab.lt ab (by rw [hM.lab.a ab rfl]; decide)).1
  refine ⟨κ', _, hM', fun j u hj hu => ?_, fun j h7 h8 => ?_, by rw [List.length_set]; exact hl, (hB.trans (hb.mono hB.size)).setCell (p := ⟨ab, k, none⟩) hal _⟩
  · rw [List.getElem?_set]
    by_cases q : k = j
    · subst q
      rw [if_pos rfl, if_pos (by rw [hl]; exact hk)]
      rw [ht] at hu
      cases hu
      rw [hz]; rfl
    · rw [if_neg q]
      exact h1 j u (by omega) hu
  · rw [List.getElem?_set, if_neg (by omega)]
    exact h2 j (by omega) h8
theorem Making.drew {p : Prg} {F : Nat} {w : World} {g bb ab k : Nat} {W : World} (h : Making p F w g bb ab k W) : Making p F w g bb ab k W.drew := by
  obtain ⟨κ, Y, hM, h1, h2, hl, hB⟩ := h
  exact ⟨κ, Y, hM.drew, h1, h2, hl, hB.drew⟩
/-- So many arguments are put in. -/
def Filling (p : Prg) (args : List Int) (F : Nat) (w : World) (g bb ab k : Nat) (W : World) : Prop :=
  (∃ κ Y, DM (dkOf p F w.heap.size g bb ab) κ (.slice none 0 0) Y (begin_ p.vs (args.take k) F) 0 W) ∧ Below w.heap.size w W
/-- What start comes to. -/
def StartEnds (p : Prg) (args : List Int) (F : Nat) (w : World) (e : Ending) (w' : World) : Prop :=
  ∃ K κ Y, e = .returned (.pointer (some ⟨K.g, 0, none⟩)) ∧ DM K κ (.slice none 0 0) Y (begin_ p.vs args F) 0 w' ∧ Below w.heap.size w w' ∧ w.heap.size ≤ K.base ∧ K.p = p ∧ K.F = F
theorem info_ints2 : (Tryz.prog.info? 22).map (fun i => (i.zero, i.size, i.bytes)) = some (some (.slice none 0 0), 1, 24) := by kernel_rfl
set_option maxRecDepth 100000 in
set_option maxHeartbeats 8000000 in
theorem start_any (p : Prg) (A : Option Addr) (c : Nat) (args : List Int) (F : Nat) (w : World) (hp : p.Ok w) (hA : IRow w w.heap.size A args) (hw : MRight p.ps p.vs p.xs args.length F) :
    Calls Tryz.prog 15 #[.agg #[.int .i64 p.ps, .slice p.A p.vs.length p.c, .slice p.B p.xs.length p.e], .slice A args.length c, .int .i64 (F : Nat)] w (StartEnds p args F w) := by
  obtain ⟨hnv, hps0, hpsn⟩ := hw.nv
  have hargs := hw.args
  have hle : args.length ≤ p.vs.length := by omega
  have hlx := hp.lx
  have hb1 := (Below.refl w.heap.size w).alloc (Nat.le_refl _) (.cells #[.int .i64 p.ps, .slice p.A p.vs.length p.c, .slice p.B p.xs.length p.e] 25)
  have bX := Blk.new w 25 #[.int .i64 p.ps, .slice p.A p.vs.length p.c, .slice p.B p.xs.length p.e]
  have hp1 := hp.at hb1
  have hA1 := hA.at hb1
  obtain ⟨W1, hW1⟩ : ∃ W1, w.alloc (.cells #[.int .i64 p.ps, .slice p.A p.vs.length p.c, .slice p.B p.xs.length p.e] 25) = W1 := ⟨_, rfl⟩
  rw [hW1] at hb1 bX hp1 hA1
  have hbx := bX.lt
  have HDE := Lib.hid (fun W => deeds_any W)
  obtain ⟨ig, hig, hz0, hz1, hz2⟩ := info_parts info_int
  obtain ⟨jg, hjg, hy0, hy1, hy2⟩ := info_parts info_ints2
  have hmk1 : ∀ W : World, (Instr.makeSlice 22 (.int .i64 (p.xs.length : Int)) (.int .i64 (p.xs.length : Int))).run Tryz.prog W = .ok (.slice (some ⟨W.heap.size, 0, none⟩) p.xs.length p.xs.length) (W.alloc (.cells (madeCells #[.int .i64 0] p.xs.length) 3)) := fun W => by
    have := run_make (P := Tryz.prog) W 22 3 ig _ Tryz.underlying22 hig hz0 .i64 .i64 (p.xs.length : Int) (p.xs.length : Int) (by omega) (by omega) (by rw [hz2]; omega) (by omega)
    rw [hz1, Int.toNat_natCast, Nat.mul_one] at this
    exact this
  have hmk2 : ∀ W : World, (Instr.makeSlice 52 (.int .i64 (p.vs.length : Int)) (.int .i64 (p.vs.length : Int))).run Tryz.prog W = .ok (.slice (some ⟨W.heap.size, 0, none⟩) p.vs.length p.vs.length) (W.alloc (.cells (madeCells #[.slice none 0 0] p.vs.length) 22)) := fun W => by
    have := run_make (P := Tryz.prog) W 52 22 jg _ Tryz.underlying52 hjg hy0 .i64 .i64 (p.vs.length : Int) (p.vs.length : Int) (by omega) (by omega) (by rw [hy2]; omega) (by omega)
    rw [hy1, Int.toNat_natCast, Nat.mul_one] at this
    exact this
  have HV := Lib.hid (fun (C : World) (hb : Below W1.heap.size W1 C) => show Below C.heap.size C (C.alloc (.cells (madeCells #[.int .i64 0] p.xs.length) 3)) ∧ Blk (C.alloc (.cells (madeCells #[.int .i64 0] p.xs.length) 3)) C.heap.size 3 (icells (List.replicate p.xs.length 0)).toArray ∧ C.heap.size < (C.alloc (.cells (madeCells #[.int .i64 0] p.xs.length) 3)).heap.size from
    ⟨(Below.refl _ _).alloc (Nat.le_refl _) _, by
      have := Blk.new C 3 (madeCells #[.int .i64 0] p.xs.length)
      rw [show madeCells #[.int .i64 0] p.xs.length = (icells (List.replicate p.xs.length 0)).toArray from by
        rw [← Array.toArray_toList (xs := madeCells #[.int .i64 0] p.xs.length), toList_madeCells_one]
        simp [icells]] at this ⊢
      exact this, by simp⟩)
  have HA := Lib.hid (fun (C : World) (hb : Below W1.heap.size W1 C) => show Below C.heap.size C (C.alloc (.cells (madeCells #[.slice none 0 0] p.vs.length) 22)) ∧ (C.alloc (.cells (madeCells #[.slice none 0 0] p.vs.length) 22)).ownsRow W1.heap.size 22 1 (.slice (some ⟨C.heap.size, 0, none⟩) p.vs.length p.vs.length) p.vs.length (List.replicate p.vs.length (.slice none 0 0)) ∧ C.heap.size < (C.alloc (.cells (madeCells #[.slice none 0 0] p.vs.length) 22)).heap.size from
    ⟨(Below.refl _ _).alloc (Nat.le_refl _) _, by
      have := World.ownsRow_lit (e := 22) (size := 1) (base := W1.heap.size) C (madeCells #[.slice none 0 0] p.vs.length) p.vs.length hb.size (by simp only [maxLen]; omega) (by rw [size_madeCells, Nat.mul_one])
      rw [toList_madeCells_one] at this
      exact this, by simp⟩)
  have HSS := Lib.hid (fun W (hb : Below W1.heap.size W1 W) => show (fun w' => w'.cell? ⟨w.heap.size, 1, none⟩ = some (.slice p.A p.vs.length p.c) ∧ w'.cell? ⟨w.heap.size, 2, none⟩ = some (.slice p.B p.xs.length p.e)) W from by
    have b := bX.below hb hbx
    exact ⟨b.cell 1, b.cell 2⟩)
  have HSZ := Lib.hid (fun t W => Size_any t W)
  have HP1 := Lib.hid hp1
  have HA1 := Lib.hid hA1
  have HB1 := Lib.hid hb1
  have hC0 : (fun w' => w'.cell? ⟨w.heap.size, 1, none⟩ = some (.slice p.A p.vs.length p.c) ∧ w'.cell? ⟨w.heap.size, 2, none⟩ = some (.slice p.B p.xs.length p.e)) W1.drew := HSS.out _ (Below.refl _ _).drew
  have HW := Lib.hid hw
  clear hp hA hp1 hA1 hb1 bX hw hps0 hpsn
  go_enter Tryz.func15, Tryz.ntmps15
  go_upto_region 1 with fail
  go_cut [7] from 12 to 26 (fun r wx => ∃ g bb ab, r = .pointer (some ⟨g, 0, none⟩) ∧ BornD p F W1 g bb ab wx)
  case first =>
    refine OrdU.wp_region_U 12 (fun w' => w'.cell? ⟨w.heap.size, 1, none⟩ = some (.slice p.A p.vs.length p.c) ∧ w'.cell? ⟨w.heap.size, 2, none⟩ = some (.slice p.B p.xs.length p.e)) (by kernel_rfl) hC0 (fun hHeld => ?_)
    refine OrdU.wpAnyU_take (i := 0) (oi := ⟨some 12, _, _, _, _, none⟩) (v := ?_) rfl (by kernel_rfl) (by kernel_rfl) (by kernel_rfl) (by decide) (by kernel_rfl) (fun _ _ _ h => h) (Or.inl ⟨by rfl, ?_⟩) (by assumption) ?_
    rotate_left
    · intro w hSw; (try dsimp only at hSw); go_simp; try with_reducible rfl
    try simp only [Act.put, List.setIfInBounds_toArray, List.set_cons_zero, List.set_cons_succ]
    refine OrdU.wpAnyU_take (i := 1) (oi := ⟨some 13, _, _, _, _, none⟩) (v := ?_) rfl (by kernel_rfl) (by kernel_rfl) (by kernel_rfl) (by decide) (by kernel_rfl) (fun _ _ _ h => h) (Or.inl ⟨by rfl, ?_⟩) (by assumption) ?_
    rotate_left
    · intro w hSw; (try dsimp only at hSw); go_simp; try with_reducible rfl
    try simp only [Act.put, List.setIfInBounds_toArray, List.set_cons_zero, List.set_cons_succ]
    refine OrdU.wpAnyU_take (i := 2) (oi := ⟨some 14, _, _, _, _, none⟩) (v := ?_) rfl (by kernel_rfl) (by kernel_rfl) (by kernel_rfl) (by decide) (by kernel_rfl) (fun _ _ _ h => h) (Or.inl ⟨by rfl, ?_⟩) (by assumption) ?_
    rotate_left
    · intro w hSw; (try dsimp only at hSw); go_simp; try with_reducible rfl
    try simp only [Act.put, List.setIfInBounds_toArray, List.set_cons_zero, List.set_cons_succ]
    refine OrdU.wpAnyU_take (i := 3) (oi := ⟨some 15, _, _, _, _, none⟩) (v := ?_) rfl (by kernel_rfl) (by kernel_rfl) (by kernel_rfl) (by decide) (by kernel_rfl) (fun _ _ _ h => h) (Or.inl ⟨by rfl, ?_⟩) (by assumption) ?_
    rotate_left
    · intro w hSw; (try dsimp only at hSw); go_simp; try with_reducible rfl
    try simp only [Act.put, List.setIfInBounds_toArray, List.set_cons_zero, List.set_cons_succ]
    refine OrdU.wpAnyU_take (i := 4) (oi := ⟨some 16, _, _, _, _, none⟩) (v := ?_) rfl (by kernel_rfl) (by kernel_rfl) (by kernel_rfl) (by decide) (by kernel_rfl) (fun _ _ _ h => h) (Or.inl ⟨by rfl, ?_⟩) (by assumption) ?_
    rotate_left
    · intro w hSw; (try dsimp only at hSw); go_simp; try with_reducible rfl
    try simp only [Act.put, List.setIfInBounds_toArray, List.set_cons_zero, List.set_cons_succ]
    refine OrdU.wpAnyU_take (i := 6) (oi := ⟨some 18, _, _, _, _, none⟩) (v := ?_) rfl (by kernel_rfl) (by kernel_rfl) (by kernel_rfl) (by decide) (by kernel_rfl) (fun _ _ _ h => h) (Or.inl ⟨by rfl, ?_⟩) (by assumption) ?_
    rotate_left
    · intro w hSw; (try dsimp only at hSw); go_simp; try with_reducible rfl
    try simp only [Act.put, List.setIfInBounds_toArray, List.set_cons_zero, List.set_cons_succ]
    refine OrdU.wpAnyU_take (i := 7) (oi := ⟨some 19, _, _, _, _, none⟩) (v := ?_) rfl (by kernel_rfl) (by kernel_rfl) (by kernel_rfl) (by decide) (by kernel_rfl) (fun _ _ _ h => h) (Or.inl ⟨by rfl, ?_⟩) (by assumption) ?_
    rotate_left
    · intro w hSw; (try dsimp only at hSw); go_simp; try with_reducible rfl
    try simp only [Act.put, List.setIfInBounds_toArray, List.set_cons_zero, List.set_cons_succ]
    refine OrdU.wpAnyU_take (i := 8) (oi := ⟨some 20, _, _, _, _, none⟩) (v := ?_) rfl (by kernel_rfl) (by kernel_rfl) (by kernel_rfl) (by decide) (by kernel_rfl) (fun _ _ _ h => h) (Or.inl ⟨by rfl, ?_⟩) (by assumption) ?_
    rotate_left
    · intro w hSw; (try dsimp only at hSw); go_simp; try with_reducible rfl
    try simp only [Act.put, List.setIfInBounds_toArray, List.set_cons_zero, List.set_cons_succ]
    refine OrdU.wpAnyU_take (i := 9) (oi := ⟨some 21, _, _, _, _, none⟩) (v := ?_) rfl (by kernel_rfl) (by kernel_rfl) (by kernel_rfl) (by decide) (by kernel_rfl) (fun _ _ _ h => h) (Or.inl ⟨by rfl, ?_⟩) (by assumption) ?_
    rotate_left
    · intro w hSw; (try dsimp only at hSw); go_simp; try with_reducible rfl
    try simp only [Act.put, List.setIfInBounds_toArray, List.set_cons_zero, List.set_cons_succ]
    obtain ⟨c0, hc0⟩ : ∃ c, W1.drew = c := ⟨_, rfl⟩
    have hB0 : Below W1.heap.size W1 c0 := by rw [← hc0]; exact (Below.refl _ _).drew
    rw [hc0] at hHeld ⊢
    clear hc0
    refine OrdU.wpAnyU_ready (rs := [5, 10, 11]) (by kernel_rfl) (by simp) ?_
    refine OrdU.AllReadyU.cons (o := ⟨some 17, _, _, _, _, none⟩) rfl (fun K' hK => ?_) (OrdU.AllReadyU.cons (o := ⟨some 22, _, _, _, _, none⟩) rfl (fun K' hK => ?_) (OrdU.AllReadyU.cons (o := ⟨some 23, _, _, _, _, none⟩) rfl (fun K' hK => ?_) OrdU.AllReadyU.nil))
    · go_simp
      obtain ⟨hb1, hv, hl1⟩ := HV.out c0 hB0
      obtain ⟨c1, hc⟩ : ∃ c, c0.alloc (.cells (madeCells #[.int .i64 0] p.xs.length) 3) = c := ⟨_, rfl⟩
      rw [hc] at hb1 hv hl1 ⊢
      clear hc
      have hB1 := hB0.trans (hb1.mono hB0.size)
      refine hK.out _ _ (fun _ => HSS.out _ hB1) (fun hHeld => ?_)
      replace hHeld := hHeld (by kernel_rfl)
      clear hK K'
      try simp only [Act.put, List.setIfInBounds_toArray, List.set_cons_zero, List.set_cons_succ]
      refine OrdU.wpAnyU_ready (rs := [10, 11]) (by kernel_rfl) (by simp) ?_
      refine OrdU.AllReadyU.cons (o := ⟨some 22, _, _, _, _, none⟩) rfl (fun K' hK => ?_) (OrdU.AllReadyU.cons (o := ⟨some 23, _, _, _, _, none⟩) rfl (fun K' hK => ?_) OrdU.AllReadyU.nil)
      · go_simp
        obtain ⟨hb2, ha, hl2⟩ := HA.out c1 hB1
        obtain ⟨c2, hc⟩ : ∃ c, c1.alloc (.cells (madeCells #[.slice none 0 0] p.vs.length) 22) = c := ⟨_, rfl⟩
        rw [hc] at hb2 ha hl2 ⊢
        clear hc
        have hB2 := hB1.trans (hb2.mono hB1.size)
        refine hK.out _ _ (fun _ => HSS.out _ hB2) (fun hHeld => ?_)
        replace hHeld := hHeld (by kernel_rfl)
        clear hK K'
        try simp only [Act.put, List.setIfInBounds_toArray, List.set_cons_zero, List.set_cons_succ]
        refine OrdU.wpAnyU_ready (rs := [11]) (by kernel_rfl) (by simp) ?_
        refine OrdU.AllReadyU.cons (o := ⟨some 23, _, _, _, _, none⟩) rfl (fun K' hK => ?_) OrdU.AllReadyU.nil
        go_simp
        go_at_call 26
        with_reducible refine (HDE.out c2).mono ?_
        rintro e c3 ⟨rfl, hb3⟩
        go_wp2_with fail
        have hB3 := hB2.trans (hb3.mono hB2.size)
        refine hK.out _ _ (fun _ => HSS.out _ hB3) (fun hHeld => ?_)
        replace hHeld := hHeld (by kernel_rfl)
        clear hK K'
        try simp only [Act.put, List.setIfInBounds_toArray, List.set_cons_zero, List.set_cons_succ]
        have hs1 := hb1.size
        have hs2 := hb2.size
        have hs3 := hb3.size
        have hV4 := (below2 hb2 hb3)
        have hA4 := hb3
        have HBN := Lib.hid (born_of p F (w := W1) hB3 (hv.below hV4 hl1) (by have := hB0.size; omega) (own_of_block ha (fun i e => hA4.block i (ha.lt i e).2)) (by omega))
        clear hV4 hA4
        refine OrdU.wpAnyU_ready (rs := [12]) (by kernel_rfl) (by simp) ?_
        refine OrdU.AllReadyU.cons (o := ⟨some 24, _, _, _, _, none⟩) rfl (fun K' hK => ?_) OrdU.AllReadyU.nil
        refine step_build (by rfl) _ _ (by rfl) (.agg (rcells (dkOf p F W1.heap.size c3.heap.size c0.heap.size c1.heap.size) (.slice none 0 0) 0 0)) (by kernel_rfl) ?_
        refine hK.out _ _ (OrdU.no (by kernel_rfl)) (fun _ => ?_)
        clear hK K'
        try simp only [Act.put, List.setIfInBounds_toArray, List.set_cons_zero, List.set_cons_succ]
        refine OrdU.wpAnyU_ready (rs := [13]) (by kernel_rfl) (by simp) ?_
        refine OrdU.AllReadyU.cons (o := ⟨some 25, _, _, _, _, none⟩) rfl (fun K' hK => ?_) OrdU.AllReadyU.nil
        refine step_box (by rfl) _ _ (by rfl) (.pointer (some ⟨c3.heap.size, 0, none⟩)) (w' := c3.alloc (.cells (rcells (dkOf p F W1.heap.size c3.heap.size c0.heap.size c1.heap.size) (.slice none 0 0) 0 0) 57)) (by kernel_rfl) ?_
        refine hK.out _ _ (OrdU.no (by kernel_rfl)) (fun _ => ?_)
        clear hK K'
        try simp only [Act.put, List.setIfInBounds_toArray, List.set_cons_zero, List.set_cons_succ]
        refine OrdU.wpAnyU_ready (rs := [14]) (by kernel_rfl) (by simp) ?_
        refine OrdU.AllReadyU.cons (o := ⟨some 7, _, _, _, _, none⟩) rfl (fun K' hK => ?_) OrdU.AllReadyU.nil
        go_simp
        refine hK.out _ _ (OrdU.no (by kernel_rfl)) (fun _ => ?_)
        clear hK K'
        try simp only [Act.put, List.setIfInBounds_toArray, List.set_cons_zero, List.set_cons_succ]
        refine OrdU.wpAnyU_done (by kernel_rfl) ?_ _
        go_wp2_with fail
        go_meet
        exact ⟨_, _, _, rfl, HBN.out⟩
      · go_simp
        go_at_call 26
        with_reducible refine (HDE.out c1).mono ?_
        rintro e c2 ⟨rfl, hb2⟩
        go_wp2_with fail
        have hB2 := hB1.trans (hb2.mono hB1.size)
        refine hK.out _ _ (fun _ => HSS.out _ hB2) (fun hHeld => ?_)
        replace hHeld := hHeld (by kernel_rfl)
        clear hK K'
        try simp only [Act.put, List.setIfInBounds_toArray, List.set_cons_zero, List.set_cons_succ]
        refine OrdU.wpAnyU_ready (rs := [10]) (by kernel_rfl) (by simp) ?_
        refine OrdU.AllReadyU.cons (o := ⟨some 22, _, _, _, _, none⟩) rfl (fun K' hK => ?_) OrdU.AllReadyU.nil
        go_simp
        obtain ⟨hb3, ha, hl3⟩ := HA.out c2 hB2
        obtain ⟨c3, hc⟩ : ∃ c, c2.alloc (.cells (madeCells #[.slice none 0 0] p.vs.length) 22) = c := ⟨_, rfl⟩
        rw [hc] at hb3 ha hl3 ⊢
        clear hc
        have hB3 := hB2.trans (hb3.mono hB2.size)
        refine hK.out _ _ (fun _ => HSS.out _ hB3) (fun hHeld => ?_)
        replace hHeld := hHeld (by kernel_rfl)
        clear hK K'
        try simp only [Act.put, List.setIfInBounds_toArray, List.set_cons_zero, List.set_cons_succ]
        have hs1 := hb1.size
        have hs2 := hb2.size
        have hs3 := hb3.size
        have hV4 := (below2 hb2 hb3)
        have hA4 := (Below.refl c3.heap.size c3)
        have HBN := Lib.hid (born_of p F (w := W1) hB3 (hv.below hV4 hl1) (by have := hB0.size; omega) (own_of_block ha (fun i e => hA4.block i (ha.lt i e).2)) (by omega))
        clear hV4 hA4
        refine OrdU.wpAnyU_ready (rs := [12]) (by kernel_rfl) (by simp) ?_
        refine OrdU.AllReadyU.cons (o := ⟨some 24, _, _, _, _, none⟩) rfl (fun K' hK => ?_) OrdU.AllReadyU.nil
        refine step_build (by rfl) _ _ (by rfl) (.agg (rcells (dkOf p F W1.heap.size c3.heap.size c0.heap.size c2.heap.size) (.slice none 0 0) 0 0)) (by kernel_rfl) ?_
        refine hK.out _ _ (OrdU.no (by kernel_rfl)) (fun _ => ?_)
        clear hK K'
        try simp only [Act.put, List.setIfInBounds_toArray, List.set_cons_zero, List.set_cons_succ]
        refine OrdU.wpAnyU_ready (rs := [13]) (by kernel_rfl) (by simp) ?_
        refine OrdU.AllReadyU.cons (o := ⟨some 25, _, _, _, _, none⟩) rfl (fun K' hK => ?_) OrdU.AllReadyU.nil
        refine step_box (by rfl) _ _ (by rfl) (.pointer (some ⟨c3.heap.size, 0, none⟩)) (w' := c3.alloc (.cells (rcells (dkOf p F W1.heap.size c3.heap.size c0.heap.size c2.heap.size) (.slice none 0 0) 0 0) 57)) (by kernel_rfl) ?_
        refine hK.out _ _ (OrdU.no (by kernel_rfl)) (fun _ => ?_)
        clear hK K'
        try simp only [Act.put, List.setIfInBounds_toArray, List.set_cons_zero, List.set_cons_succ]
        refine OrdU.wpAnyU_ready (rs := [14]) (by kernel_rfl) (by simp) ?_
        refine OrdU.AllReadyU.cons (o := ⟨some 7, _, _, _, _, none⟩) rfl (fun K' hK => ?_) OrdU.AllReadyU.nil
        go_simp
        refine hK.out _ _ (OrdU.no (by kernel_rfl)) (fun _ => ?_)
        clear hK K'
        try simp only [Act.put, List.setIfInBounds_toArray, List.set_cons_zero, List.set_cons_succ]
        refine OrdU.wpAnyU_done (by kernel_rfl) ?_ _
        go_wp2_with fail
        go_meet
        exact ⟨_, _, _, rfl, HBN.out⟩
    · go_simp
      obtain ⟨hb1, ha, hl1⟩ := HA.out c0 hB0
      obtain ⟨c1, hc⟩ : ∃ c, c0.alloc (.cells (madeCells #[.slice none 0 0] p.vs.length) 22) = c := ⟨_, rfl⟩
      rw [hc] at hb1 ha hl1 ⊢
      clear hc
      have hB1 := hB0.trans (hb1.mono hB0.size)
      refine hK.out _ _ (fun _ => HSS.out _ hB1) (fun hHeld => ?_)
      replace hHeld := hHeld (by kernel_rfl)
      clear hK K'
      try simp only [Act.put, List.setIfInBounds_toArray, List.set_cons_zero, List.set_cons_succ]
      refine OrdU.wpAnyU_ready (rs := [5, 11]) (by kernel_rfl) (by simp) ?_
      refine OrdU.AllReadyU.cons (o := ⟨some 17, _, _, _, _, none⟩) rfl (fun K' hK => ?_) (OrdU.AllReadyU.cons (o := ⟨some 23, _, _, _, _, none⟩) rfl (fun K' hK => ?_) OrdU.AllReadyU.nil)
      · go_simp
        obtain ⟨hb2, hv, hl2⟩ := HV.out c1 hB1
        obtain ⟨c2, hc⟩ : ∃ c, c1.alloc (.cells (madeCells #[.int .i64 0] p.xs.length) 3) = c := ⟨_, rfl⟩
        rw [hc] at hb2 hv hl2 ⊢
        clear hc
        have hB2 := hB1.trans (hb2.mono hB1.size)
        refine hK.out _ _ (fun _ => HSS.out _ hB2) (fun hHeld => ?_)
        replace hHeld := hHeld (by kernel_rfl)
        clear hK K'
        try simp only [Act.put, List.setIfInBounds_toArray, List.set_cons_zero, List.set_cons_succ]
        refine OrdU.wpAnyU_ready (rs := [11]) (by kernel_rfl) (by simp) ?_
        refine OrdU.AllReadyU.cons (o := ⟨some 23, _, _, _, _, none⟩) rfl (fun K' hK => ?_) OrdU.AllReadyU.nil
        go_simp
        go_at_call 26
        with_reducible refine (HDE.out c2).mono ?_
        rintro e c3 ⟨rfl, hb3⟩
        go_wp2_with fail
        have hB3 := hB2.trans (hb3.mono hB2.size)
        refine hK.out _ _ (fun _ => HSS.out _ hB3) (fun hHeld => ?_)
        replace hHeld := hHeld (by kernel_rfl)
        clear hK K'
        try simp only [Act.put, List.setIfInBounds_toArray, List.set_cons_zero, List.set_cons_succ]
        have hs1 := hb1.size
        have hs2 := hb2.size
        have hs3 := hb3.size
        have hV4 := hb3
        have hA4 := (below2 hb2 hb3)
        have HBN := Lib.hid (born_of p F (w := W1) hB3 (hv.below hV4 hl2) (by have := hB1.size; omega) (own_of_block ha (fun i e => hA4.block i (ha.lt i e).2)) (by omega))
        clear hV4 hA4
        refine OrdU.wpAnyU_ready (rs := [12]) (by kernel_rfl) (by simp) ?_
        refine OrdU.AllReadyU.cons (o := ⟨some 24, _, _, _, _, none⟩) rfl (fun K' hK => ?_) OrdU.AllReadyU.nil
        refine step_build (by rfl) _ _ (by rfl) (.agg (rcells (dkOf p F W1.heap.size c3.heap.size c1.heap.size c0.heap.size) (.slice none 0 0) 0 0)) (by kernel_rfl) ?_
        refine hK.out _ _ (OrdU.no (by kernel_rfl)) (fun _ => ?_)
        clear hK K'
        try simp only [Act.put, List.setIfInBounds_toArray, List.set_cons_zero, List.set_cons_succ]
        refine OrdU.wpAnyU_ready (rs := [13]) (by kernel_rfl) (by simp) ?_
        refine OrdU.AllReadyU.cons (o := ⟨some 25, _, _, _, _, none⟩) rfl (fun K' hK => ?_) OrdU.AllReadyU.nil
        refine step_box (by rfl) _ _ (by rfl) (.pointer (some ⟨c3.heap.size, 0, none⟩)) (w' := c3.alloc (.cells (rcells (dkOf p F W1.heap.size c3.heap.size c1.heap.size c0.heap.size) (.slice none 0 0) 0 0) 57)) (by kernel_rfl) ?_
        refine hK.out _ _ (OrdU.no (by kernel_rfl)) (fun _ => ?_)
        clear hK K'
        try simp only [Act.put, List.setIfInBounds_toArray, List.set_cons_zero, List.set_cons_succ]
        refine OrdU.wpAnyU_ready (rs := [14]) (by kernel_rfl) (by simp) ?_
        refine OrdU.AllReadyU.cons (o := ⟨some 7, _, _, _, _, none⟩) rfl (fun K' hK => ?_) OrdU.AllReadyU.nil
        go_simp
        refine hK.out _ _ (OrdU.no (by kernel_rfl)) (fun _ => ?_)
        clear hK K'
        try simp only [Act.put, List.setIfInBounds_toArray, List.set_cons_zero, List.set_cons_succ]
        refine OrdU.wpAnyU_done (by kernel_rfl) ?_ _
        go_wp2_with fail
        go_meet
        exact ⟨_, _, _, rfl, HBN.out⟩
      · go_simp
        go_at_call 26
        with_reducible refine (HDE.out c1).mono ?_
        rintro e c2 ⟨rfl, hb2⟩
        go_wp2_with fail
        have hB2 := hB1.trans (hb2.mono hB1.size)
        refine hK.out _ _ (fun _ => HSS.out _ hB2) (fun hHeld => ?_)
        replace hHeld := hHeld (by kernel_rfl)
        clear hK K'
        try simp only [Act.put, List.setIfInBounds_toArray, List.set_cons_zero, List.set_cons_succ]
        refine OrdU.wpAnyU_ready (rs := [5]) (by kernel_rfl) (by simp) ?_
        refine OrdU.AllReadyU.cons (o := ⟨some 17, _, _, _, _, none⟩) rfl (fun K' hK => ?_) OrdU.AllReadyU.nil
        go_simp
        obtain ⟨hb3, hv, hl3⟩ := HV.out c2 hB2
        obtain ⟨c3, hc⟩ : ∃ c, c2.alloc (.cells (madeCells #[.int .i64 0] p.xs.length) 3) = c := ⟨_, rfl⟩
        rw [hc] at hb3 hv hl3 ⊢
        clear hc
        have hB3 := hB2.trans (hb3.mono hB2.size)
        refine hK.out _ _ (fun _ => HSS.out _ hB3) (fun hHeld => ?_)
        replace hHeld := hHeld (by kernel_rfl)
        clear hK K'
        try simp only [Act.put, List.setIfInBounds_toArray, List.set_cons_zero, List.set_cons_succ]
        have hs1 := hb1.size
        have hs2 := hb2.size
        have hs3 := hb3.size
        have hV4 := (Below.refl c3.heap.size c3)
        have hA4 := (below2 hb2 hb3)
        have HBN := Lib.hid (born_of p F (w := W1) hB3 (hv.below hV4 hl3) (by have := hB2.size; omega) (own_of_block ha (fun i e => hA4.block i (ha.lt i e).2)) (by omega))
        clear hV4 hA4
        refine OrdU.wpAnyU_ready (rs := [12]) (by kernel_rfl) (by simp) ?_
        refine OrdU.AllReadyU.cons (o := ⟨some 24, _, _, _, _, none⟩) rfl (fun K' hK => ?_) OrdU.AllReadyU.nil
        refine step_build (by rfl) _ _ (by rfl) (.agg (rcells (dkOf p F W1.heap.size c3.heap.size c2.heap.size c0.heap.size) (.slice none 0 0) 0 0)) (by kernel_rfl) ?_
        refine hK.out _ _ (OrdU.no (by kernel_rfl)) (fun _ => ?_)
        clear hK K'
        try simp only [Act.put, List.setIfInBounds_toArray, List.set_cons_zero, List.set_cons_succ]
        refine OrdU.wpAnyU_ready (rs := [13]) (by kernel_rfl) (by simp) ?_
        refine OrdU.AllReadyU.cons (o := ⟨some 25, _, _, _, _, none⟩) rfl (fun K' hK => ?_) OrdU.AllReadyU.nil
        refine step_box (by rfl) _ _ (by rfl) (.pointer (some ⟨c3.heap.size, 0, none⟩)) (w' := c3.alloc (.cells (rcells (dkOf p F W1.heap.size c3.heap.size c2.heap.size c0.heap.size) (.slice none 0 0) 0 0) 57)) (by kernel_rfl) ?_
        refine hK.out _ _ (OrdU.no (by kernel_rfl)) (fun _ => ?_)
        clear hK K'
        try simp only [Act.put, List.setIfInBounds_toArray, List.set_cons_zero, List.set_cons_succ]
        refine OrdU.wpAnyU_ready (rs := [14]) (by kernel_rfl) (by simp) ?_
        refine OrdU.AllReadyU.cons (o := ⟨some 7, _, _, _, _, none⟩) rfl (fun K' hK => ?_) OrdU.AllReadyU.nil
        go_simp
        refine hK.out _ _ (OrdU.no (by kernel_rfl)) (fun _ => ?_)
        clear hK K'
        try simp only [Act.put, List.setIfInBounds_toArray, List.set_cons_zero, List.set_cons_succ]
        refine OrdU.wpAnyU_done (by kernel_rfl) ?_ _
        go_wp2_with fail
        go_meet
        exact ⟨_, _, _, rfl, HBN.out⟩
    · go_simp
      go_at_call 26
      with_reducible refine (HDE.out c0).mono ?_
      rintro e c1 ⟨rfl, hb1⟩
      go_wp2_with fail
      have hB1 := hB0.trans (hb1.mono hB0.size)
      refine hK.out _ _ (fun _ => HSS.out _ hB1) (fun hHeld => ?_)
      replace hHeld := hHeld (by kernel_rfl)
      clear hK K'
      try simp only [Act.put, List.setIfInBounds_toArray, List.set_cons_zero, List.set_cons_succ]
      refine OrdU.wpAnyU_ready (rs := [5, 10]) (by kernel_rfl) (by simp) ?_
      refine OrdU.AllReadyU.cons (o := ⟨some 17, _, _, _, _, none⟩) rfl (fun K' hK => ?_) (OrdU.AllReadyU.cons (o := ⟨some 22, _, _, _, _, none⟩) rfl (fun K' hK => ?_) OrdU.AllReadyU.nil)
      · go_simp
        obtain ⟨hb2, hv, hl2⟩ := HV.out c1 hB1
        obtain ⟨c2, hc⟩ : ∃ c, c1.alloc (.cells (madeCells #[.int .i64 0] p.xs.length) 3) = c := ⟨_, rfl⟩
        rw [hc] at hb2 hv hl2 ⊢
        clear hc
        have hB2 := hB1.trans (hb2.mono hB1.size)
        refine hK.out _ _ (fun _ => HSS.out _ hB2) (fun hHeld => ?_)
        replace hHeld := hHeld (by kernel_rfl)
        clear hK K'
        try simp only [Act.put, List.setIfInBounds_toArray, List.set_cons_zero, List.set_cons_succ]
        refine OrdU.wpAnyU_ready (rs := [10]) (by kernel_rfl) (by simp) ?_
        refine OrdU.AllReadyU.cons (o := ⟨some 22, _, _, _, _, none⟩) rfl (fun K' hK => ?_) OrdU.AllReadyU.nil
        go_simp
        obtain ⟨hb3, ha, hl3⟩ := HA.out c2 hB2
        obtain ⟨c3, hc⟩ : ∃ c, c2.alloc (.cells (madeCells #[.slice none 0 0] p.vs.length) 22) = c := ⟨_, rfl⟩
        rw [hc] at hb3 ha hl3 ⊢
        clear hc
        have hB3 := hB2.trans (hb3.mono hB2.size)
        refine hK.out _ _ (fun _ => HSS.out _ hB3) (fun hHeld => ?_)
        replace hHeld := hHeld (by kernel_rfl)
        clear hK K'
        try simp only [Act.put, List.setIfInBounds_toArray, List.set_cons_zero, List.set_cons_succ]
        have hs1 := hb1.size
        have hs2 := hb2.size
        have hs3 := hb3.size
        have hV4 := hb3
        have hA4 := (Below.refl c3.heap.size c3)
        have HBN := Lib.hid (born_of p F (w := W1) hB3 (hv.below hV4 hl2) (by have := hB1.size; omega) (own_of_block ha (fun i e => hA4.block i (ha.lt i e).2)) (by omega))
        clear hV4 hA4
        refine OrdU.wpAnyU_ready (rs := [12]) (by kernel_rfl) (by simp) ?_
        refine OrdU.AllReadyU.cons (o := ⟨some 24, _, _, _, _, none⟩) rfl (fun K' hK => ?_) OrdU.AllReadyU.nil
        refine step_build (by rfl) _ _ (by rfl) (.agg (rcells (dkOf p F W1.heap.size c3.heap.size c1.heap.size c2.heap.size) (.slice none 0 0) 0 0)) (by kernel_rfl) ?_
        refine hK.out _ _ (OrdU.no (by kernel_rfl)) (fun _ => ?_)
        clear hK K'
        try simp only [Act.put, List.setIfInBounds_toArray, List.set_cons_zero, List.set_cons_succ]
        refine OrdU.wpAnyU_ready (rs := [13]) (by kernel_rfl) (by simp) ?_
        refine OrdU.AllReadyU.cons (o := ⟨some 25, _, _, _, _, none⟩) rfl (fun K' hK => ?_) OrdU.AllReadyU.nil
        refine step_box (by rfl) _ _ (by rfl) (.pointer (some ⟨c3.heap.size, 0, none⟩)) (w' := c3.alloc (.cells (rcells (dkOf p F W1.heap.size c3.heap.size c1.heap.size c2.heap.size) (.slice none 0 0) 0 0) 57)) (by kernel_rfl) ?_
        refine hK.out _ _ (OrdU.no (by kernel_rfl)) (fun _ => ?_)
        clear hK K'
        try simp only [Act.put, List.setIfInBounds_toArray, List.set_cons_zero, List.set_cons_succ]
        refine OrdU.wpAnyU_ready (rs := [14]) (by kernel_rfl) (by simp) ?_
        refine OrdU.AllReadyU.cons (o := ⟨some 7, _, _, _, _, none⟩) rfl (fun K' hK => ?_) OrdU.AllReadyU.nil
        go_simp
        refine hK.out _ _ (OrdU.no (by kernel_rfl)) (fun _ => ?_)
        clear hK K'
        try simp only [Act.put, List.setIfInBounds_toArray, List.set_cons_zero, List.set_cons_succ]
        refine OrdU.wpAnyU_done (by kernel_rfl) ?_ _
        go_wp2_with fail
        go_meet
        exact ⟨_, _, _, rfl, HBN.out⟩
      · go_simp
        obtain ⟨hb2, ha, hl2⟩ := HA.out c1 hB1
        obtain ⟨c2, hc⟩ : ∃ c, c1.alloc (.cells (madeCells #[.slice none 0 0] p.vs.length) 22) = c := ⟨_, rfl⟩
        rw [hc] at hb2 ha hl2 ⊢
        clear hc
        have hB2 := hB1.trans (hb2.mono hB1.size)
        refine hK.out _ _ (fun _ => HSS.out _ hB2) (fun hHeld => ?_)
        replace hHeld := hHeld (by kernel_rfl)
        clear hK K'
        try simp only [Act.put, List.setIfInBounds_toArray, List.set_cons_zero, List.set_cons_succ]
        refine OrdU.wpAnyU_ready (rs := [5]) (by kernel_rfl) (by simp) ?_
        refine OrdU.AllReadyU.cons (o := ⟨some 17, _, _, _, _, none⟩) rfl (fun K' hK => ?_) OrdU.AllReadyU.nil
        go_simp
        obtain ⟨hb3, hv, hl3⟩ := HV.out c2 hB2
        obtain ⟨c3, hc⟩ : ∃ c, c2.alloc (.cells (madeCells #[.int .i64 0] p.xs.length) 3) = c := ⟨_, rfl⟩
        rw [hc] at hb3 hv hl3 ⊢
        clear hc
        have hB3 := hB2.trans (hb3.mono hB2.size)
        refine hK.out _ _ (fun _ => HSS.out _ hB3) (fun hHeld => ?_)
        replace hHeld := hHeld (by kernel_rfl)
        clear hK K'
        try simp only [Act.put, List.setIfInBounds_toArray, List.set_cons_zero, List.set_cons_succ]
        have hs1 := hb1.size
        have hs2 := hb2.size
        have hs3 := hb3.size
        have hV4 := (Below.refl c3.heap.size c3)
        have hA4 := hb3
        have HBN := Lib.hid (born_of p F (w := W1) hB3 (hv.below hV4 hl3) (by have := hB2.size; omega) (own_of_block ha (fun i e => hA4.block i (ha.lt i e).2)) (by omega))
        clear hV4 hA4
        refine OrdU.wpAnyU_ready (rs := [12]) (by kernel_rfl) (by simp) ?_
        refine OrdU.AllReadyU.cons (o := ⟨some 24, _, _, _, _, none⟩) rfl (fun K' hK => ?_) OrdU.AllReadyU.nil
        refine step_build (by rfl) _ _ (by rfl) (.agg (rcells (dkOf p F W1.heap.size c3.heap.size c2.heap.size c1.heap.size) (.slice none 0 0) 0 0)) (by kernel_rfl) ?_
        refine hK.out _ _ (OrdU.no (by kernel_rfl)) (fun _ => ?_)
        clear hK K'
        try simp only [Act.put, List.setIfInBounds_toArray, List.set_cons_zero, List.set_cons_succ]
        refine OrdU.wpAnyU_ready (rs := [13]) (by kernel_rfl) (by simp) ?_
        refine OrdU.AllReadyU.cons (o := ⟨some 25, _, _, _, _, none⟩) rfl (fun K' hK => ?_) OrdU.AllReadyU.nil
        refine step_box (by rfl) _ _ (by rfl) (.pointer (some ⟨c3.heap.size, 0, none⟩)) (w' := c3.alloc (.cells (rcells (dkOf p F W1.heap.size c3.heap.size c2.heap.size c1.heap.size) (.slice none 0 0) 0 0) 57)) (by kernel_rfl) ?_
        refine hK.out _ _ (OrdU.no (by kernel_rfl)) (fun _ => ?_)
        clear hK K'
        try simp only [Act.put, List.setIfInBounds_toArray, List.set_cons_zero, List.set_cons_succ]
        refine OrdU.wpAnyU_ready (rs := [14]) (by kernel_rfl) (by simp) ?_
        refine OrdU.AllReadyU.cons (o := ⟨some 7, _, _, _, _, none⟩) rfl (fun K' hK => ?_) OrdU.AllReadyU.nil
        go_simp
        refine hK.out _ _ (OrdU.no (by kernel_rfl)) (fun _ => ?_)
        clear hK K'
        try simp only [Act.put, List.setIfInBounds_toArray, List.set_cons_zero, List.set_cons_succ]
        refine OrdU.wpAnyU_done (by kernel_rfl) ?_ _
        go_wp2_with fail
        go_meet
        exact ⟨_, _, _, rfl, HBN.out⟩
  case rest =>
    obtain ⟨g, bb, ab, rfl, hBn⟩ := hcut
    obtain ⟨l1, l2, l3⟩ := hBn.lo
    obtain ⟨n1, n2, n3⟩ := hBn.ne
    have hMB : MB g bb W1.heap.size p p.xs.length (List.replicate p.xs.length 0) wc := {
      c4 := hBn.blk.cell 4
      c6 := hBn.blk.cell 6
      blk := hBn.bb
      len := List.length_replicate
      body := HP1.out.body.keep fun k q => hBn.below.block k q
      hb := l2
      hg := n1
      gl := hBn.blk.lt
      bl := hBn.below.size }
    have HMA := Lib.hid (show Calls Tryz.prog 27 #[.pointer (some ⟨g, 0, none⟩), .int .i64 0] wc (MarkEnds g bb W1.heap.size p p.xs.length 0 p.xs.length (List.replicate p.xs.length 0) wc) from mark_any hlx p.xs.length 0 p.xs.length (List.replicate p.xs.length 0) wc (Nat.le_refl _) (by rw [List.drop_zero]; exact HW.out.whole) hMB)
    have HBN := Lib.hid hBn
    have hpos := HW.out.pos
    clear hMB hBn
    go_wp2_with (first
      | (go_at_call 27; (with_reducible refine HMA.out.mono ?_); rintro e w3 ⟨rfl, L3, hM3, hK3, hm3⟩
         have hB3 : Below W1.heap.size W1 w3 := HBN.out.below.trans (hK3.to_below HBN.out.below.size (fun k q => by rw [q]; exact l2))
         obtain ⟨b2a, b2b⟩ := HSS.out w3 hB3
         have HMK := Lib.hid (show Making p F W1 g bb ab 0 w3 from ⟨_, _, HBN.out.marked HP1.out.body hlx (by omega) hpos hM3 hK3 hm3, fun j t hj => absurd hj (by omega), fun j _ hj => by rw [List.getElem?_replicate, if_pos hj], List.length_replicate, hB3⟩)
         clear hM3 hK3 hm3 hB3)
      | fail)
    go_loopw [31] (fun i wr => ∃ k : Nat, k ≤ p.vs.length ∧ i = .int .i64 k ∧ Making p F W1 g bb ab k wr) (fun i _ => p.vs.length - (intOf i).toNat)
    case atStart => exact ⟨0, by omega, rfl, HMK.out⟩
    case round =>
      obtain ⟨k, hk, rfl, hM⟩ := hrel
      by_cases hlt : k < p.vs.length
      · obtain ⟨t, ht⟩ : ∃ t, p.vs[k]? = some t := ⟨_, List.getElem?_eq_getElem hlt⟩
        have hM0 := hM
        obtain ⟨κ2, Y2, hP, h1, h2, h3, hB⟩ := hM0
        obtain ⟨vd, hvd, -, d0⟩ := (HP1.out.at hB).vars k t ht
        have c8 : wr.cell? ⟨g, 8, none⟩ = some (.slice (some ⟨ab, 0, none⟩) p.vs.length p.vs.length) := hP.cell 8
        have hg0 : 0 ≤ asz t := by unfold asz; split <;> omega
        have hg1 : asz t ≤ 8 := by unfold asz; split <;> omega
        by_cases hz : asz t = 0
        · have hvz : vsz t = 1 := by unfold vsz; rw [if_pos hz]
          have HZ := Lib.hid (fun W => show Calls Tryz.prog 28 #[.int .i64 t] W fun e w' => e = .returned (.int .i64 0) ∧ w' = W from by rw [← hz]; exact Size_any t W)
          have hmk3 : ∀ W : World, (Instr.makeSlice 22 (.int .i64 (1 : Int)) (.int .i64 (1 : Int))).run Tryz.prog W = .ok (.slice (some ⟨W.heap.size, 0, none⟩) 1 1) (W.alloc (.cells (madeCells #[.int .i64 0] 1) 3)) := fun W => by
            have := run_make (P := Tryz.prog) W 22 3 ig _ Tryz.underlying22 hig hz0 .i64 .i64 (1 : Int) (1 : Int) (by omega) (by omega) (by rw [hz2]; omega) (by omega)
            rw [hz1, show ((1 : Int)).toNat = 1 by omega, Nat.mul_one] at this
            exact this
          have HN := Lib.hid (hM.next ht (z := 1) hvz (by simp only [maxLen]; omega)).drew
          have hbA : Below wr.drew.heap.size wr.drew (wr.drew.alloc (.cells (madeCells #[.int .i64 0] 1) 3)) := (Below.refl _ _).alloc (Nat.le_refl _) _
          have hC2 : (fun w' => w'.cell? ⟨g, 8, none⟩ = some (.slice (some ⟨ab, 0, none⟩) p.vs.length p.vs.length)) wr.drew := c8
          have hPA := hP.drew.below hbA
          have hC3 : (fun w' => w'.cell? ⟨g, 8, none⟩ = some (.slice (some ⟨ab, 0, none⟩) p.vs.length p.vs.length)) (wr.drew.alloc (.cells (madeCells #[.int .i64 0] 1) 3)) := hPA.cell 8
          have hfz : ∀ j, (wr.alloc (.cells (madeCells #[.int .i64 0] 1) 3)).drew.frozen? ⟨ab, j, none⟩ = false := fun j => World.ownsRow.frozenAt hPA.ar j
          have hcz : ∃ v, (wr.alloc (.cells (madeCells #[.int .i64 0] 1) 3)).cell? ⟨ab, k, none⟩ = some v := by
            have hc := World.ownsRow.cellAt hPA.ar k (by simpa using hlt)
            rw [show (tcells Y2)[k]? = some (.slice none 0 0) by unfold tcells; rw [List.getElem?_map, h2 k (Nat.le_refl _) hlt]; rfl] at hc
            exact ⟨_, hc⟩
          obtain ⟨vz, hcz⟩ := hcz
          have hcz2 := hcz
          rw [hvd]
          clear h1 h2 h3 hP hB hPA hbA hM hvd ht
          have i1 : (k : Int) < (p.vs.length : Int) := by omega
          have i2 : (0 : Int) ≤ (k : Int) := by omega
          have v1 : IntKind.i64.wrap ((k : Int) + 1) = (k : Int) + 1 := IntWalk.i64_in _ (by omega)
          go_wp2_with fail
          refine OrdU.wp_region_U 9 (fun w' => w'.cell? ⟨g, 8, none⟩ = some (.slice (some ⟨ab, 0, none⟩) p.vs.length p.vs.length)) (by kernel_rfl) hC2 (fun hHeld => ?_)
          refine OrdU.wpAnyU_take (i := 0) (oi := ⟨some 36, _, _, _, _, none⟩) (v := ?_) rfl (by kernel_rfl) (by kernel_rfl) (by kernel_rfl) (by decide) (by kernel_rfl) (fun _ _ _ h => h) (Or.inl ⟨by rfl, ?_⟩) (by assumption) ?_
          rotate_left
          · intro w hSw; (try dsimp only at hSw); go_simp; try with_reducible rfl
          try simp only [Act.put, List.setIfInBounds_toArray, List.set_cons_zero, List.set_cons_succ]
          refine OrdU.wpAnyU_take (i := 1) (oi := ⟨some 37, _, _, _, _, none⟩) (v := ?_) rfl (by kernel_rfl) (by kernel_rfl) (by kernel_rfl) (by decide) (by kernel_rfl) (fun _ _ _ h => h) (Or.inl ⟨by rfl, ?_⟩) (by assumption) ?_
          rotate_left
          · intro w hSw; (try dsimp only at hSw); go_simp; try with_reducible rfl
          try simp only [Act.put, List.setIfInBounds_toArray, List.set_cons_zero, List.set_cons_succ]
          refine OrdU.wpAnyU_take (i := 2) (oi := ⟨some 38, _, _, _, _, none⟩) (v := ?_) rfl (by kernel_rfl) (by kernel_rfl) (by kernel_rfl) (by decide) (by kernel_rfl) (fun _ _ _ h => h) (Or.inl ⟨by rfl, ?_⟩) (by assumption) ?_
          rotate_left
          · intro w hSw; (try dsimp only at hSw); go_simp; try with_reducible rfl
          try simp only [Act.put, List.setIfInBounds_toArray, List.set_cons_zero, List.set_cons_succ]
          refine OrdU.wpAnyU_take (i := 3) (oi := ⟨some 39, _, _, _, _, none⟩) (v := ?_) rfl (by kernel_rfl) (by kernel_rfl) (by kernel_rfl) (by decide) (by kernel_rfl) (fun _ _ _ h => h) (Or.inl ⟨by rfl, ?_⟩) (by assumption) ?_
          rotate_left
          · intro w hSw; (try dsimp only at hSw); go_simp; try with_reducible rfl
          try simp only [Act.put, List.setIfInBounds_toArray, List.set_cons_zero, List.set_cons_succ]
          refine OrdU.wpAnyU_take (i := 4) (oi := ⟨some 40, _, _, _, _, none⟩) (v := ?_) rfl (by kernel_rfl) (by kernel_rfl) (by kernel_rfl) (by decide) (by kernel_rfl) (fun _ _ _ h => h) (Or.inl ⟨by rfl, ?_⟩) (by assumption) ?_
          rotate_left
          · intro w hSw; (try dsimp only at hSw); go_simp; try with_reducible rfl
          try simp only [Act.put, List.setIfInBounds_toArray, List.set_cons_zero, List.set_cons_succ]
          refine OrdU.wpAnyU_take (i := 5) (oi := ⟨some 41, _, _, _, _, none⟩) (v := ?_) rfl (by kernel_rfl) (by kernel_rfl) (by kernel_rfl) (by decide) (by kernel_rfl) (fun _ _ _ h => h) (Or.inl ⟨by rfl, ?_⟩) (by assumption) ?_
          rotate_left
          · intro w hSw; (try dsimp only at hSw); go_simp; try with_reducible rfl
          try simp only [Act.put, List.setIfInBounds_toArray, List.set_cons_zero, List.set_cons_succ]
          refine OrdU.wpAnyU_ready (rs := [6]) (by kernel_rfl) (by simp) ?_
          refine OrdU.AllReadyU.cons (o := ⟨some 42, _, _, _, _, none⟩) rfl (fun K' hK => ?_) OrdU.AllReadyU.nil
          go_simp
          go_at_call 28
          with_reducible refine (HZ.out _).mono ?_
          rintro e w9 ⟨rfl, hw9⟩
          obtain rfl := hw9
          go_wp2_with fail
          refine hK.out _ _ (fun _ => hC2) (fun hHeld => ?_)
          replace hHeld := hHeld (by kernel_rfl)
          clear hK K'
          try simp only [Act.put, List.setIfInBounds_toArray, List.set_cons_zero, List.set_cons_succ]
          refine OrdU.wpAnyU_ready (rs := [7]) (by kernel_rfl) (by simp) ?_
          refine OrdU.AllReadyU.cons (o := ⟨some 43, _, _, _, _, none⟩) rfl (fun K' hK => ?_) OrdU.AllReadyU.nil
          go_simp
          refine hK.out _ _ (fun _ => hC2) (fun hHeld => ?_)
          replace hHeld := hHeld (by kernel_rfl)
          clear hK K'
          try simp only [Act.put, List.setIfInBounds_toArray, List.set_cons_zero, List.set_cons_succ]
          refine OrdU.wpAnyU_ready (rs := [8]) (by kernel_rfl) (by simp) ?_
          refine OrdU.AllReadyU.cons (o := ⟨some 44, _, _, _, _, none⟩) rfl (fun K' hK => ?_) OrdU.AllReadyU.nil
          go_simp
          refine hK.out _ _ (fun _ => hC3) (fun hHeld => ?_)
          replace hHeld := hHeld (by kernel_rfl)
          clear hK K'
          try simp only [Act.put, List.setIfInBounds_toArray, List.set_cons_zero, List.set_cons_succ]
          refine OrdU.wpAnyU_ready (rs := [9]) (by kernel_rfl) (by simp) ?_
          refine OrdU.AllReadyU.cons (o := ⟨some 45, _, _, _, _, none⟩) rfl (fun K' hK => ?_) OrdU.AllReadyU.nil
          go_simp
          refine hK.out _ _ (OrdU.no (by kernel_rfl)) (fun _ => ?_)
          clear hK K'
          try simp only [Act.put, List.setIfInBounds_toArray, List.set_cons_zero, List.set_cons_succ]
          refine OrdU.wpAnyU_ready (rs := [10]) (by kernel_rfl) (by simp) ?_
          refine OrdU.AllReadyU.cons (o := ⟨none, _, _, _, _, none⟩) rfl (fun K' hK => ?_) OrdU.AllReadyU.nil
          go_simp
          refine hK.out _ _ (OrdU.no (by kernel_rfl)) (fun _ => ?_)
          clear hK K'
          try simp only [Act.put, List.setIfInBounds_toArray, List.set_cons_zero, List.set_cons_succ]
          refine OrdU.wpAnyU_done (by kernel_rfl) ?_ _
          go_wp2_with fail
          go_roundw
          case rel => exact ⟨k + 1, by omega, by go_num, HN.out⟩
          case measure => simp [intOf]; omega
        · obtain ⟨z, hzz⟩ := Int.eq_ofNat_of_zero_le hg0
          have hvz : vsz t = z := by unfold vsz; rw [if_neg hz]; omega
          have HZ := Lib.hid (fun W => show Calls Tryz.prog 28 #[.int .i64 t] W fun e w' => e = .returned (.int .i64 (z : Int)) ∧ w' = W from by rw [← hzz]; exact Size_any t W)
          have hmx : (if (1 : Int) < (z : Int) then (z : Int) else 1) = (z : Int) := by split <;> omega
          have hmk3 : ∀ W : World, (Instr.makeSlice 22 (.int .i64 (z : Int)) (.int .i64 (z : Int))).run Tryz.prog W = .ok (.slice (some ⟨W.heap.size, 0, none⟩) z z) (W.alloc (.cells (madeCells #[.int .i64 0] z) 3)) := fun W => by
            have := run_make (P := Tryz.prog) W 22 3 ig _ Tryz.underlying22 hig hz0 .i64 .i64 (z : Int) (z : Int) (by omega) (by omega) (by rw [hz2]; omega) (by omega)
            rw [hz1, show ((z : Int)).toNat = z by omega, Nat.mul_one] at this
            exact this
          have HN := Lib.hid (hM.next ht (z := z) hvz (by simp only [maxLen]; omega)).drew
          have hbA : Below wr.drew.heap.size wr.drew (wr.drew.alloc (.cells (madeCells #[.int .i64 0] z) 3)) := (Below.refl _ _).alloc (Nat.le_refl _) _
          have hC2 : (fun w' => w'.cell? ⟨g, 8, none⟩ = some (.slice (some ⟨ab, 0, none⟩) p.vs.length p.vs.length)) wr.drew := c8
          have hPA := hP.drew.below hbA
          have hC3 : (fun w' => w'.cell? ⟨g, 8, none⟩ = some (.slice (some ⟨ab, 0, none⟩) p.vs.length p.vs.length)) (wr.drew.alloc (.cells (madeCells #[.int .i64 0] z) 3)) := hPA.cell 8
          have hfz : ∀ j, (wr.alloc (.cells (madeCells #[.int .i64 0] z) 3)).drew.frozen? ⟨ab, j, none⟩ = false := fun j => World.ownsRow.frozenAt hPA.ar j
          have hcz : ∃ v, (wr.alloc (.cells (madeCells #[.int .i64 0] z) 3)).cell? ⟨ab, k, none⟩ = some v := by
            have hc := World.ownsRow.cellAt hPA.ar k (by simpa using hlt)
            rw [show (tcells Y2)[k]? = some (.slice none 0 0) by unfold tcells; rw [List.getElem?_map, h2 k (Nat.le_refl _) hlt]; rfl] at hc
            exact ⟨_, hc⟩
          obtain ⟨vz, hcz⟩ := hcz
          have hcz2 := hcz
          rw [hvd]
          clear h1 h2 h3 hP hB hPA hbA hM hvd ht
          have i1 : (k : Int) < (p.vs.length : Int) := by omega
          have i2 : (0 : Int) ≤ (k : Int) := by omega
          have v1 : IntKind.i64.wrap ((k : Int) + 1) = (k : Int) + 1 := IntWalk.i64_in _ (by omega)
          go_wp2_with fail
          refine OrdU.wp_region_U 9 (fun w' => w'.cell? ⟨g, 8, none⟩ = some (.slice (some ⟨ab, 0, none⟩) p.vs.length p.vs.length)) (by kernel_rfl) hC2 (fun hHeld => ?_)
          refine OrdU.wpAnyU_take (i := 0) (oi := ⟨some 36, _, _, _, _, none⟩) (v := ?_) rfl (by kernel_rfl) (by kernel_rfl) (by kernel_rfl) (by decide) (by kernel_rfl) (fun _ _ _ h => h) (Or.inl ⟨by rfl, ?_⟩) (by assumption) ?_
          rotate_left
          · intro w hSw; (try dsimp only at hSw); go_simp; try with_reducible rfl
          try simp only [Act.put, List.setIfInBounds_toArray, List.set_cons_zero, List.set_cons_succ]
          refine OrdU.wpAnyU_take (i := 1) (oi := ⟨some 37, _, _, _, _, none⟩) (v := ?_) rfl (by kernel_rfl) (by kernel_rfl) (by kernel_rfl) (by decide) (by kernel_rfl) (fun _ _ _ h => h) (Or.inl ⟨by rfl, ?_⟩) (by assumption) ?_
          rotate_left
          · intro w hSw; (try dsimp only at hSw); go_simp; try with_reducible rfl
          try simp only [Act.put, List.setIfInBounds_toArray, List.set_cons_zero, List.set_cons_succ]
          refine OrdU.wpAnyU_take (i := 2) (oi := ⟨some 38, _, _, _, _, none⟩) (v := ?_) rfl (by kernel_rfl) (by kernel_rfl) (by kernel_rfl) (by decide) (by kernel_rfl) (fun _ _ _ h => h) (Or.inl ⟨by rfl, ?_⟩) (by assumption) ?_
          rotate_left
          · intro w hSw; (try dsimp only at hSw); go_simp; try with_reducible rfl
          try simp only [Act.put, List.setIfInBounds_toArray, List.set_cons_zero, List.set_cons_succ]
          refine OrdU.wpAnyU_take (i := 3) (oi := ⟨some 39, _, _, _, _, none⟩) (v := ?_) rfl (by kernel_rfl) (by kernel_rfl) (by kernel_rfl) (by decide) (by kernel_rfl) (fun _ _ _ h => h) (Or.inl ⟨by rfl, ?_⟩) (by assumption) ?_
          rotate_left
          · intro w hSw; (try dsimp only at hSw); go_simp; try with_reducible rfl
          try simp only [Act.put, List.setIfInBounds_toArray, List.set_cons_zero, List.set_cons_succ]
          refine OrdU.wpAnyU_take (i := 4) (oi := ⟨some 40, _, _, _, _, none⟩) (v := ?_) rfl (by kernel_rfl) (by kernel_rfl) (by kernel_rfl) (by decide) (by kernel_rfl) (fun _ _ _ h => h) (Or.inl ⟨by rfl, ?_⟩) (by assumption) ?_
          rotate_left
          · intro w hSw; (try dsimp only at hSw); go_simp; try with_reducible rfl
          try simp only [Act.put, List.setIfInBounds_toArray, List.set_cons_zero, List.set_cons_succ]
          refine OrdU.wpAnyU_take (i := 5) (oi := ⟨some 41, _, _, _, _, none⟩) (v := ?_) rfl (by kernel_rfl) (by kernel_rfl) (by kernel_rfl) (by decide) (by kernel_rfl) (fun _ _ _ h => h) (Or.inl ⟨by rfl, ?_⟩) (by assumption) ?_
          rotate_left
          · intro w hSw; (try dsimp only at hSw); go_simp; try with_reducible rfl
          try simp only [Act.put, List.setIfInBounds_toArray, List.set_cons_zero, List.set_cons_succ]
          refine OrdU.wpAnyU_ready (rs := [6]) (by kernel_rfl) (by simp) ?_
          refine OrdU.AllReadyU.cons (o := ⟨some 42, _, _, _, _, none⟩) rfl (fun K' hK => ?_) OrdU.AllReadyU.nil
          go_simp
          go_at_call 28
          with_reducible refine (HZ.out _).mono ?_
          rintro e w9 ⟨rfl, hw9⟩
          obtain rfl := hw9
          go_wp2_with fail
          refine hK.out _ _ (fun _ => hC2) (fun hHeld => ?_)
          replace hHeld := hHeld (by kernel_rfl)
          clear hK K'
          try simp only [Act.put, List.setIfInBounds_toArray, List.set_cons_zero, List.set_cons_succ]
          refine OrdU.wpAnyU_ready (rs := [7]) (by kernel_rfl) (by simp) ?_
          refine OrdU.AllReadyU.cons (o := ⟨some 43, _, _, _, _, none⟩) rfl (fun K' hK => ?_) OrdU.AllReadyU.nil
          go_simp
          refine hK.out _ _ (fun _ => hC2) (fun hHeld => ?_)
          replace hHeld := hHeld (by kernel_rfl)
          clear hK K'
          try simp only [Act.put, List.setIfInBounds_toArray, List.set_cons_zero, List.set_cons_succ]
          refine OrdU.wpAnyU_ready (rs := [8]) (by kernel_rfl) (by simp) ?_
          refine OrdU.AllReadyU.cons (o := ⟨some 44, _, _, _, _, none⟩) rfl (fun K' hK => ?_) OrdU.AllReadyU.nil
          go_simp
          refine hK.out _ _ (fun _ => hC3) (fun hHeld => ?_)
          replace hHeld := hHeld (by kernel_rfl)
          clear hK K'
          try simp only [Act.put, List.setIfInBounds_toArray, List.set_cons_zero, List.set_cons_succ]
          refine OrdU.wpAnyU_ready (rs := [9]) (by kernel_rfl) (by simp) ?_
          refine OrdU.AllReadyU.cons (o := ⟨some 45, _, _, _, _, none⟩) rfl (fun K' hK => ?_) OrdU.AllReadyU.nil
          go_simp
          refine hK.out _ _ (OrdU.no (by kernel_rfl)) (fun _ => ?_)
          clear hK K'
          try simp only [Act.put, List.setIfInBounds_toArray, List.set_cons_zero, List.set_cons_succ]
          refine OrdU.wpAnyU_ready (rs := [10]) (by kernel_rfl) (by simp) ?_
          refine OrdU.AllReadyU.cons (o := ⟨none, _, _, _, _, none⟩) rfl (fun K' hK => ?_) OrdU.AllReadyU.nil
          go_simp
          refine hK.out _ _ (OrdU.no (by kernel_rfl)) (fun _ => ?_)
          clear hK K'
          try simp only [Act.put, List.setIfInBounds_toArray, List.set_cons_zero, List.set_cons_succ]
          refine OrdU.wpAnyU_done (by kernel_rfl) ?_ _
          go_wp2_with fail
          go_roundw
          case rel => exact ⟨k + 1, by omega, by go_num, HN.out⟩
          case measure => simp [intOf]; omega
      · obtain rfl : k = p.vs.length := by omega
        have i3 : ¬ ((p.vs.length : Nat) : Int) < ((p.vs.length : Nat) : Int) := by omega
        obtain ⟨⟨κ4, Y4, hD⟩, hB4⟩ := hM.all
        have HF0 := Lib.hid (show Filling p args F W1 g bb ab 0 wr from ⟨⟨κ4, Y4, by rw [List.take_zero]; exact hD⟩, hB4⟩)
        clear hM hD hB4
        go_wp2_with fail
        go_loopw [49] (fun i wr => ∃ k : Nat, k ≤ args.length ∧ i = .int .i64 k ∧ Filling p args F W1 g bb ab k wr) (fun i _ => args.length - (intOf i).toNat)
        case atStart => exact ⟨0, by omega, rfl, HF0.out⟩
        case round =>
          obtain ⟨k, hk, rfl, ⟨κ5, Y5, hD⟩, hB⟩ := hrel
          by_cases hlt : k < args.length
          · obtain ⟨x, hx⟩ : ∃ x, args[k]? = some x := ⟨_, List.getElem?_eq_getElem hlt⟩
            obtain ⟨ad, rfl, -, d0⟩ := (HA1.out.at hB) k x hx
            have hkv : k < p.vs.length := by omega
            have hty := HW.out.good (i := k) (by omega)
            have ht0 := hty.2.2 (by omega)
            have hty2 : asz (p.vs.getD k (-1)) = 0 := by
              rw [List.getD_eq_getElem?_getD, List.getElem?_eq_getElem hkv] at ht0 ⊢
              simp only [Option.getD_some] at ht0 ⊢
              rw [ht0]; rfl
            have hdc : dcell p.vs (begin_ p.vs (args.take k) F) k = [(begin_ p.vs (args.take k) F).vals.getD k 0] := by unfold dcell; rw [if_pos hty2]
            obtain ⟨cb, cc, b, cl, e1, y1, y2, y3, y4, y5⟩ := hD.var hkv (by show 0 < (dcell p.vs _ k).length; rw [hdc]; exact Nat.zero_lt_one)
            have e1' : (Value.slice (some ⟨ab, 0, none⟩) p.vs.length p.vs.length) = .slice (some ⟨cb, 0, none⟩) p.vs.length cc := e1
            cases e1'
            replace y1 : wr.cell? ⟨ab, k, none⟩ = some (.slice (some ⟨b, 0, none⟩) (dcell p.vs (begin_ p.vs (args.take k) F) k).length cl) := y1
            rw [hdc] at y1
            have y3 := y3 0 _ (by show (dcell p.vs _ k)[0]? = some _; rw [hdc]; rfl)
            have y4 := y4 0
            have c8 : wr.cell? ⟨g, 8, none⟩ = some (.slice (some ⟨ab, 0, none⟩) p.vs.length p.vs.length) := hD.cell 8
            have hnext := hD.set_y y2 (by rfl) (j := 0) (by show 0 < (dcell p.vs _ k).length; rw [hdc]; exact Nat.zero_lt_one) x (s' := begin_ p.vs (args.take (k + 1)) F) (by
              show dcells p.vs _ = (dcells p.vs _).set k ((dcell p.vs _ k).set 0 x)
              rw [hdc]
              exact dcells_setV x hkv (by show ((List.range p.vs.length).map _).length = _; simp) hty2 (begin_arg F k hx hle) rfl) rfl rfl
            have hbl : W1.heap.size ≤ b := (hD.lab.lt b (by rw [y5]; omega)).1
            have HN := Lib.hid (show Filling p args F W1 g bb ab (k + 1) _ from ⟨⟨κ5, _, hnext⟩, hB.setCell (p := ⟨b, 0, none⟩) hbl (.int .i64 x)⟩)
            have i1 : (k : Int) < (args.length : Int) := by omega
            have i1' : (k : Int) < (p.vs.length : Int) := by omega
            have i2 : (0 : Int) ≤ (k : Int) := by omega
            have v1 : IntKind.i64.wrap ((k : Int) + 1) = (k : Int) + 1 := IntWalk.i64_in _ (by omega)
            clear hnext y2 y5 e1 hdc hty2 ht0 hty hD hB hbl
            generalize (begin_ p.vs (args.take k) F).vals.getD k 0 = old at *
            simp only [List.length_cons, List.length_nil, Nat.zero_add] at y1
            go_wp2_with fail
            go_roundw
            case rel => exact ⟨k + 1, by omega, by go_num, HN.out⟩
            case measure => simp [intOf]; omega
          · obtain rfl : k = args.length := by omega
            have i4 : ¬ ((args.length : Nat) : Int) < ((args.length : Nat) : Int) := by omega
            have HE := Lib.hid (show StartEnds p args F w (.returned (.pointer (some ⟨g, 0, none⟩))) wr from ⟨dkOf p F W1.heap.size g bb ab, κ5, Y5, rfl, by rw [List.take_length] at hD; exact hD, HB1.out.trans (hB.mono HB1.out.size), HB1.out.size, rfl, rfl⟩)
            clear hD hB
            go_wp2_with fail
            go_ret
            exact HE.out
end Go.Proofs.YtodejloonfkkmaaGreat.Dir
