/-
  Package machine, walked: the places behind nodes, found from the right.
-/
import Derived.Test.YtodejloonfkkmaaGreatMachEndsM
import Derived.Test.YtodejloonfkkmaaGreatMachPTell
import Derived.Test.YtodejloonfkkmaaGreatOrdersU
import Derived.Laws.MakeOwn
import Derived.Laws.OwnMore
import Derived.Deep.RegionLaw
import Derived.Deep.AppendLies
set_option linter.unusedVariables false
namespace Go.Proofs.YtodejloonfkkmaaGreat.Mach
open Go.RowKit Mem _root_.Go.Proofs.YtodejloonfkkmaaGreat.Arena _root_.Go.Proofs.YtodejloonfkkmaaGreat.Kinds _root_.Go.Proofs.YtodejloonfkkmaaGreat.Path _root_.Go.Proofs.YtodejloonfkkmaaGreat.Cat _root_.Go.Proofs.YtodejloonfkkmaaGreat.Suite
attribute [local go_sem ↓] Go.wp_at_zero Go.wp_at_succ

/-- What ends comes to. -/
def EndsEnds (xs : List Nd) (w : World) (e : Ending) (w' : World) : Prop :=
  e = .returned (.slice (some ⟨w.heap.size, 0, none⟩) xs.length xs.length) ∧ w.heap.size < w'.heap.size ∧ (∀ i, IsNode xs i → w'.cell? ⟨w.heap.size, i, none⟩ = some (.int .i64 (behind xs i))) ∧ Below w.heap.size w w'
/-- What the loop holds. -/
structure EndsRel (xs : List Nd) (w : World) (v i : Value) (k c : Nat) (L : List Int) (wr : World) : Prop where
  kn : k ≤ xs.length
  at_ : i = .int .i64 ((k : Int) - 1)
  len : L.length = xs.length
  told : ∀ j, k ≤ j → j < xs.length → L[j]? = some ((behind xs j : Nat) : Int)
  sc : scan c (xs.drop k) = some (xs.length - k)
  all : wr.ownsRow w.heap.size 3 1 (.slice (some ⟨w.heap.size, 0, none⟩) xs.length xs.length) xs.length (icells L)
  parts : wr.ownsRow w.heap.size 3 1 v c (icells (eFrom xs c k))
  ne : v.ownBlock ≠ some w.heap.size
  below : Below w.heap.size w wr
theorem EndsRel.next {xs : List Nd} {w wr w' : World} {v i v' : Value} {k c o A : Nat} {L L' : List Int} (h : EndsRel xs w v i (k + 1) c L wr) (hk : k < xs.length) (hL : L' = L.set k ((behind xs k : Nat) : Int)) (hsc : scan (o + 1) (xs.drop k) = some (xs.length - k))
    (hall : w'.ownsRow w.heap.size 3 1 (.slice (some ⟨w.heap.size, 0, none⟩) xs.length xs.length) xs.length (icells L')) (hp : w'.ownsRow w.heap.size 3 1 v' (o + 1) (icells (eFrom xs (o + 1) k))) (hne : v'.ownBlock ≠ some w.heap.size) (hb : Below w.heap.size w w') :
    EndsRel xs w v' (.int .i64 ((k : Int) - 1)) k (o + 1) L' w' where
  kn := by omega
  at_ := rfl
  len := by rw [hL, List.length_set]; exact h.len
  told := fun j h1 h2 => by
    rw [hL, List.getElem?_set]
    split
    · next q => subst q; rw [if_pos (by rw [h.len]; exact hk)]
    · exact h.told j (by omega) h2
  sc := hsc
  all := hall
  parts := hp
  ne := hne
  below := hb
theorem ends_done {xs : List Nd} {w W3 w5 : World} {L : List Int} {bh : Int} {k o gg cap4 : Nat} {v : Value} {T : List Value} {ob : Obj}
    (HH : ∀ (W : World) (L' : List Int) (v' : Value), L' = L.set k bh → W.ownsRow w.heap.size 3 1 (.slice (some ⟨w.heap.size, 0, none⟩) xs.length xs.length) xs.length (icells L') → W.ownsRow w.heap.size 3 1 v' (o + 1) (icells (eFrom xs (o + 1) k)) → v'.ownBlock ≠ some w.heap.size → Below w.heap.size w W → EndsRel xs w v' (.int .i64 ((k : Int) - 1)) k (o + 1) L' W)
    (hall : W3.ownsRow w.heap.size 3 1 (.slice (some ⟨w.heap.size, 0, none⟩) xs.length xs.length) xs.length (icells (L.set k bh))) (hb : Below w.heap.size w W3)
    (hv : v.ownBlock ≠ some w.heap.size) (hvb : ∀ i, v.ownBlock = some i → w.heap.size ≤ i)
    (hown : w5.ownsRow w.heap.size 3 1 (.slice (some ⟨gg, 0, none⟩) (o + 1) cap4) (o + 1) (T ++ [.int .i64 bh])) (hT : T ++ [.int .i64 bh] = icells (eFrom xs (o + 1) k))
    (hgr : (W3.alloc ob).drew.grownBy w5 v.ownBlock) (hat : v.ownBlock = some gg ∨ gg = W3.heap.size + 1) :
    ∃ k' c' L', EndsRel xs w (.slice (some ⟨gg, 0, none⟩) (o + 1) cap4) (.int .i64 ((k : Int) - 1)) k' c' L' w5 := by
  have hlt : w.heap.size < W3.heap.size := (hall.lt _ rfl).2
  have hbA : Below W3.heap.size W3 (W3.alloc ob).drew := ((Below.refl _ _).alloc (Nat.le_refl _) ob).drew
  have hall2 := own_of_block hall (fun i e => hbA.block i (hall.lt i e).2)
  refine ⟨k, o + 1, _, HH w5 _ _ rfl (own_of_block hall2 fun i e => hgr.block i (hall2.lt i e).2 fun q => hv (q.symm.trans (by rw [← e]; rfl))) (hT ▸ hown) (fun e => ?_) ((hb.trans (hbA.mono hb.size)).grown hgr (Nat.le_trans hb.size hbA.size) fun i e => hvb i e)⟩
  have e : gg = w.heap.size := Option.some.inj e
  rcases hat with q | q
  · exact hv (q.trans (congrArg some e))
  · omega
set_option maxRecDepth 100000 in
set_option maxHeartbeats 4000000 in
theorem ends_any (bd : Addr) (be : Nat) (xs : List Nd) (w : World) (hp : Nodes w w.heap.size (some bd) xs) (hlx : xs.length ≤ 1000000) (hw : scan 1 xs = some xs.length) : Calls Tryz.prog 32 #[.slice (some bd) xs.length be] w (EndsEnds xs w) := by
  obtain ⟨ig, hig, hz0, hz1, hz2⟩ := info_parts info_int
  have hpos : 0 < xs.length := by
    cases hq : xs with
    | nil => rw [hq, scan_nil] at hw; cases hw
    | cons x l => simp
  have hmk : ∀ W : World, (Instr.makeSlice 22 (.int .i64 (xs.length : Int)) (.int .i64 (xs.length : Int))).run Tryz.prog W = .ok (.slice (some ⟨W.heap.size, 0, none⟩) xs.length xs.length) (W.alloc (.cells (madeCells #[.int .i64 0] xs.length) 3)) := fun W => by
    have := run_make (P := Tryz.prog) W 22 3 ig _ Tryz.underlying22 hig hz0 .i64 .i64 (xs.length : Int) (xs.length : Int) (by omega) (by omega) (by rw [hz2]; omega) (by omega)
    rw [hz1, Int.toNat_natCast, Nat.mul_one] at this
    exact this
  have hO0 := World.ownsRow_lit (e := 3) (size := 1) (base := w.heap.size) w (madeCells #[.int .i64 0] xs.length) xs.length (Nat.le_refl _) (by simp only [maxLen]; omega) (by rw [size_madeCells, Nat.mul_one])
  rw [toList_madeCells_one] at hO0
  have hb0 : Below w.heap.size w (w.alloc (.cells (madeCells #[.int .i64 0] xs.length) 3)) := (Below.refl _ _).alloc (Nat.le_refl _) _
  have hR0 : EndsRel xs w (.slice none 0 0) (.int .i64 ((xs.length : Int) - 1)) xs.length 0 (List.replicate xs.length 0) (w.alloc (.cells (madeCells #[.int .i64 0] xs.length) 3)) :=
    ⟨Nat.le_refl _, rfl, List.length_replicate, fun j h1 h2 => by omega, by rw [List.drop_of_length_le (Nat.le_refl _), scan_0]; congr 1; omega, by simpa [icells] using hO0, World.ownsRow_nil _ _ _ _, (fun e => by cases e), hb0⟩
  have HR0 := Lib.hid hR0
  have v0 : IntKind.i64.wrap ((xs.length : Int) - 1) = (xs.length : Int) - 1 := IntWalk.i64_in _ (by omega)
  have HP := Lib.hid (fun W (hb : Below w.heap.size w W) => hp.below hb)
  have HWH := Lib.hid hw
  have HAR := Lib.hid (fun t N W => Arity_any t N W)
  clear hO0 hb0 hR0 hp hw
  go_enter Tryz.func32, Tryz.ntmps32
  go_wp2_with fail
  go_loopw [4, 5] (fun v i wr => ∃ k c L, EndsRel xs w v i k c L wr) (fun _ i _ => (intOf i + 1).toNat)
  case atStart => exact ⟨_, _, _, HR0.out⟩
  case round =>
    obtain ⟨k, c, L, hR⟩ := hrel
    cases k with
    | zero =>
      have hi := hR.at_
      have hi2 : u5 = .int .i64 (-1) := hi
      have hb := hR.below
      have hall := hR.all
      have HF := Lib.hid (show EndsEnds xs w (.returned (.slice (some ⟨w.heap.size, 0, none⟩) xs.length xs.length)) wr from ⟨rfl, (hall.lt _ rfl).2, fun i hi => by
        obtain ⟨x, -, -, -, -, hil, -⟩ := hi.get
        exact own_read (hR.len.symm ▸ hall) (hR.told i (by omega) hil), hb⟩)
      subst hi2
      clear hi hb hall hR
      go_wp2_with fail
      go_ret
      exact HF.out
    | succ k =>
      have hk : k < xs.length := hR.kn
      have hi := hR.at_
      have hi2 : u5 = .int .i64 (k : Int) := by rw [hi]; congr 1; omega
      clear hi
      subst hi2
      obtain ⟨⟨t, N⟩, A, hx, hA, hAc, hnode, hA0, hAp, htake, hscan⟩ := ends_round HWH.out hk hR.sc
      obtain ⟨ad, hB, hbk, d0, d1⟩ := (HP.out _ hR.below) k (t, N) hx
      simp only at d0 d1
      obtain ⟨o, ho⟩ : ∃ o, c = o + A := ⟨c - A, by omega⟩
      have hco : c - A = o := by omega
      rw [hco] at htake hscan
      obtain ⟨bh, hbh⟩ : ∃ bh, behind xs k = bh := ⟨_, rfl⟩
      rw [hbh] at htake hA0
      -- the first store
      have hall := hR.all
      have hp := hR.parts
      have hb := hR.below
      have hgw := (hall.lt _ rfl).2
      have hfz := World.ownsRow.frozenAt hall k
      have hcl : ∃ z, wr.cell? ⟨w.heap.size, k, none⟩ = some (.int .i64 z) := by
        obtain ⟨z, hz⟩ : ∃ z, L[k]? = some z := ⟨_, List.getElem?_eq_getElem (by rw [hR.len]; exact hk)⟩
        exact ⟨z, own_read (hR.len.symm ▸ hall) hz⟩
      obtain ⟨z, hcz⟩ := hcl
      have hall1 := own_put (x := .int .i64 ((k : Int) + 1)) hall rfl (i := k) (by rw [icells_length, hR.len]; exact hk)
      rw [icells_set] at hall1
      have hp1 := own_of_block hp (w' := wr.setCell ⟨w.heap.size, k, none⟩ (.int .i64 ((k : Int) + 1))) (fun i e => Below.heap_setCell _ _ _ _ (fun q => hR.ne (e.trans (congrArg some (by first | exact q | exact q.symm)))))
      have hb1 : Below w.heap.size w (wr.setCell ⟨w.heap.size, k, none⟩ (.int .i64 ((k : Int) + 1))) := hb.setCell (p := ⟨w.heap.size, k, none⟩) (Nat.le_refl _) _
      obtain ⟨ad1, hB1, hbk1, e0, e1⟩ := (HP.out _ hb1) k (t, N) hx
      cases hB
      cases hB1
      simp only at e0 e1
      obtain ⟨W1, hW1⟩ : ∃ W1, wr.setCell ⟨w.heap.size, k, none⟩ (.int .i64 ((k : Int) + 1)) = W1 := ⟨_, rfl⟩
      rw [hW1] at hall1 hp1 hb1 e0 e1
      have HA := Lib.hid (show ∀ W, Calls Tryz.prog 52 #[.agg #[.int .i64 t, .int .i64 N]] W fun e w' => e = .returned (.int .i64 (A : Int)) ∧ Below W.heap.size W w' from fun W => by rw [← hA]; exact HAR.out t N W)
      have i1 : (k : Int) < (xs.length : Int) := by omega
      have i2 : (0 : Int) ≤ (k : Int) := by omega
      have v1 : IntKind.i64.wrap ((k : Int) + 1) = (k : Int) + 1 := IntWalk.i64_in _ (by omega)
      have v2 : IntKind.i64.wrap ((k : Int) - 1) = (k : Int) - 1 := IntWalk.i64_in _ (by omega)
      have hcn : c ≤ xs.length := by
        have := (scan_le _ _ _ hR.sc).1
        omega
      have v3 : IntKind.i64.wrap ((c : Int) - (A : Int)) = (o : Int) := by rw [IntWalk.i64_in _ (by omega)]; omega
      have HR := Lib.hid hR
      have HT := Lib.hid htake
      have HSC := Lib.hid hscan
      have HBH := Lib.hid hbh
      have HH := Lib.hid (fun (W : World) (L' : List Int) (v' : Value) (hL : L' = L.set k ((bh : Nat) : Int)) (h1 : W.ownsRow w.heap.size 3 1 (.slice (some ⟨w.heap.size, 0, none⟩) xs.length xs.length) xs.length (icells L')) (h2 : W.ownsRow w.heap.size 3 1 v' (o + 1) (icells (eFrom xs (o + 1) k))) (h3 : v'.ownBlock ≠ some w.heap.size) (h4 : Below w.heap.size w W) => hR.next (o := o) (A := A) hk (by rw [hbh]; exact hL) hscan h1 h2 h3 h4)
      have HLL := Lib.hid hR.len
      have hall1L : (L.set k ((k : Int) + 1)).length = xs.length := by rw [List.length_set]; exact hR.len
      have hp2 := hp.2
      clear hR htake hscan hbh hA hx hnode hall hp hb d0 d1
      rcases hp2 with ⟨hv, hc0⟩ | ⟨pb, pc, cur, hv, -, -, hpn, -⟩
      · -- no parts yet
        have hA00 : A = 0 := by omega
        have ho0 : o = 0 := by omega
        have hbk0 := hA0 hA00
        subst hA00
        subst ho0
        subst hbk0
        subst hv
        subst hc0
        clear hA0 hAp hAc ho hco hcn v3
        go_wp2_with (first | (go_at_call 52; (with_reducible refine (HA.out _).mono ?_); rintro e w2 ⟨rfl, hb2⟩) | fail)
        have hall2 := own_of_block hall1 (fun i e => hb2.block i (hall1.lt i e).2)
        have hp2 := own_of_block hp1 (fun i e => hb2.block i (hp1.lt i e).2)
        have hbF := hb1.trans (hb2.mono hb1.size)
        have hallF : w2.ownsRow w.heap.size 3 1 (.slice (some ⟨w.heap.size, 0, none⟩) xs.length xs.length) xs.length (icells (L.set k ((k : Int) + 1))) := hall2
        have hlenF := hall1L
        have hC0 : (fun w' => w'.cell? ⟨w.heap.size, k, none⟩ = some (.int .i64 ((k : Int) + 1))) w2.drew := own_read (hlenF.symm ▸ hallF) (by rw [List.getElem?_set_self (by rw [HLL.out]; exact hk)])
        have hbA := ((Below.refl w2.heap.size w2).alloc (Nat.le_refl _) (.cells #[.int .i64 ((k : Int) + 1)] 3)).drew
        have hC4 : (fun w' => w'.cell? ⟨w.heap.size, k, none⟩ = some (.int .i64 ((k : Int) + 1))) (w2.alloc (.cells #[.int .i64 ((k : Int) + 1)] 3)).drew := (hbA.cell (p := ⟨w.heap.size, k, none⟩) (hallF.lt _ rfl).2).trans hC0
        have hsz3 := hbF.size
        refine OrdU.wp_region_U 8 (fun w' => w'.cell? ⟨w.heap.size, k, none⟩ = some (.int .i64 ((k : Int) + 1))) (by kernel_rfl) hC0 (fun hHeld => ?_)
        refine OrdU.wpAnyU_take (i := 0) (oi := ⟨some 41, _, _, _, _, none⟩) (v := ?_) rfl (by kernel_rfl) (by kernel_rfl) (by kernel_rfl) (by decide) (by kernel_rfl) (fun _ _ _ h => h) (Or.inl ⟨by rfl, ?_⟩) (by assumption) ?_
        rotate_left
        · intro w hSw; (try dsimp only at hSw); go_simp; try with_reducible rfl
        try simp only [Act.put, List.setIfInBounds_toArray, List.set_cons_zero, List.set_cons_succ]
        refine OrdU.wpAnyU_take (i := 1) (oi := ⟨some 42, _, _, _, _, none⟩) (v := ?_) rfl (by kernel_rfl) (by kernel_rfl) (by kernel_rfl) (by decide) (by kernel_rfl) (fun _ _ _ h => h) (Or.inl ⟨by rfl, ?_⟩) (by assumption) ?_
        rotate_left
        · intro w hSw; (try dsimp only at hSw); go_simp; try with_reducible rfl
        try simp only [Act.put, List.setIfInBounds_toArray, List.set_cons_zero, List.set_cons_succ]
        refine OrdU.wpAnyU_take (i := 2) (oi := ⟨some 43, _, _, _, _, none⟩) (v := ?_) rfl (by kernel_rfl) (by kernel_rfl) (by kernel_rfl) (by decide) (by kernel_rfl) (fun _ _ _ h => h) (Or.inl ⟨by rfl, ?_⟩) (by assumption) ?_
        rotate_left
        · intro w hSw; (try dsimp only at hSw); go_simp; try with_reducible rfl
        try simp only [Act.put, List.setIfInBounds_toArray, List.set_cons_zero, List.set_cons_succ]
        refine OrdU.wpAnyU_take (i := 3) (oi := ⟨some 44, _, _, _, _, none⟩) (v := ?_) rfl (by kernel_rfl) (by kernel_rfl) (by kernel_rfl) (by decide) (by kernel_rfl) (fun _ _ _ h => h) (Or.inl ⟨by rfl, ?_⟩) (by assumption) ?_
        rotate_left
        · intro w hSw; (try dsimp only at hSw); go_simp; try with_reducible rfl
        try simp only [Act.put, List.setIfInBounds_toArray, List.set_cons_zero, List.set_cons_succ]
        refine OrdU.wpAnyU_take (i := 4) (oi := ⟨some 45, _, _, _, _, none⟩) (v := ?_) rfl (by kernel_rfl) (by kernel_rfl) (by kernel_rfl) (by decide) (by kernel_rfl) (fun _ _ _ h => h) (Or.inl ⟨by rfl, ?_⟩) (by assumption) ?_
        rotate_left
        · intro w hSw; (try dsimp only at hSw); go_simp; try with_reducible rfl
        try simp only [Act.put, List.setIfInBounds_toArray, List.set_cons_zero, List.set_cons_succ]
        refine OrdU.wpAnyU_take (i := 5) (oi := ⟨some 46, _, _, _, _, none⟩) (v := ?_) rfl (by kernel_rfl) (by kernel_rfl) (by kernel_rfl) (by decide) (by kernel_rfl) (fun _ _ _ h => h) (Or.inl ⟨by rfl, ?_⟩) (by assumption) ?_
        rotate_left
        · intro w hSw; (try dsimp only at hSw); go_simp; try with_reducible rfl
        try simp only [Act.put, List.setIfInBounds_toArray, List.set_cons_zero, List.set_cons_succ]
        refine OrdU.wpAnyU_take (i := 6) (oi := ⟨some 47, _, _, _, _, none⟩) (v := ?_) rfl (by kernel_rfl) (by kernel_rfl) (by kernel_rfl) (by decide) (by kernel_rfl) (fun _ _ _ h => h) (Or.inl ⟨by rfl, ?_⟩) (by assumption) ?_
        rotate_left
        · intro w hSw; (try dsimp only at hSw); go_simp; try with_reducible rfl
        try simp only [Act.put, List.setIfInBounds_toArray, List.set_cons_zero, List.set_cons_succ]
        refine OrdU.wpAnyU_ready (rs := [7]) (by kernel_rfl) (by simp) ?_
        refine OrdU.AllReadyU.cons (o := ⟨some 48, _, _, _, _, none⟩) rfl (fun K' hK => ?_) OrdU.AllReadyU.nil
        go_simp
        refine hK.out _ _ (fun _ => hC4) (fun hHeld => ?_)
        replace hHeld := hHeld (by kernel_rfl)
        clear hK K'
        try simp only [Act.put, List.setIfInBounds_toArray, List.set_cons_zero, List.set_cons_succ]
        refine OrdU.wpAnyU_ready (rs := [8]) (by kernel_rfl) (by simp) ?_
        refine OrdU.AllReadyU.cons (o := ⟨some 49, _, _, _, _, none⟩) rfl (fun K' hK => ?_) OrdU.AllReadyU.nil
        refine step_append_lies _ (by rfl) _ _ _ (by rfl) w.heap.size 3 ig _ 1 8 Tryz.underlying22 hig hz0 hz1 hz2 rfl (by omega) _ 0 _ (by rfl) (World.ownsRow_nil _ _ _ _) ⟨w2.heap.size, 0, none⟩ 1 1 [.int .i64 ((k : Int) + 1)] (by rfl) (by rfl) (World.news_of_block (cs := #[.int .i64 ((k : Int) + 1)]) (t := 3) (fr := (0, 0)) (heap_alloc_new w2 _)) (by simp [Value.oneCell']) (by omega) (by simp only [maxLen]; omega) (by omega) (by simp; omega) (w2.heap.size + 1) (by simp) ?_
        intro gg cap4 w5 hown hgr hat hlt5
        refine hK.out _ _ (OrdU.no (by kernel_rfl)) (fun _ => ?_)
        clear hK K'
        try simp only [Act.put, List.setIfInBounds_toArray, List.set_cons_zero, List.set_cons_succ]
        refine OrdU.wpAnyU_ready (rs := [9]) (by kernel_rfl) (by simp) ?_
        refine OrdU.AllReadyU.cons (o := ⟨some 4, _, _, _, _, none⟩) rfl (fun K' hK => ?_) OrdU.AllReadyU.nil
        go_simp
        refine hK.out _ _ (OrdU.no (by kernel_rfl)) (fun _ => ?_)
        clear hK K'
        try simp only [Act.put, List.setIfInBounds_toArray, List.set_cons_zero, List.set_cons_succ]
        refine OrdU.wpAnyU_done (by kernel_rfl) ?_ _
        have HF := Lib.hid (ends_done (v := .slice none 0 0) HH.out hallF hbF (fun e => by cases e) (fun i e => by cases e) hown (by rw [← HT.out]; rfl) hgr hat)
        clear hown hgr hat hC0 hC4 hbA
        go_wp2_with fail
        go_roundw
        case rel => exact HF.out
        case measure => simp [intOf] <;> omega

      · have hne : pb ≠ w.heap.size := fun e => HR.out.ne (by rw [hv, e]; rfl)
        subst hv
        by_cases hAz : A = 0
        · have hbk0 := hA0 hAz
          subst hAz
          subst hbk0
          have hoc : o = c := by omega
          subst hoc
          clear hA0 hAp hAc ho hco
          have i5 : (o : Int) ≤ (pc : Int) := by omega
          have i6 : (0 : Int) ≤ (o : Int) := by omega
          have hlo : decide ((o : Int) < (o : Int)) = false := decide_eq_false (by omega)
          go_wp2_with (first | (go_at_call 52; (with_reducible refine (HA.out _).mono ?_); rintro e w2 ⟨rfl, hb2⟩) | fail)
          have hall2 := own_of_block hall1 (fun i e => hb2.block i (hall1.lt i e).2)
          have hp2 := own_of_block hp1 (fun i e => hb2.block i (hp1.lt i e).2)
          have hbF := hb1.trans (hb2.mono hb1.size)
          have hallF : w2.ownsRow w.heap.size 3 1 (.slice (some ⟨w.heap.size, 0, none⟩) xs.length xs.length) xs.length (icells (L.set k ((k : Int) + 1))) := hall2
          have hlenF := hall1L
          have hC0 : (fun w' => w'.cell? ⟨w.heap.size, k, none⟩ = some (.int .i64 ((k : Int) + 1))) w2.drew := own_read (hlenF.symm ▸ hallF) (by rw [List.getElem?_set_self (by rw [HLL.out]; exact hk)])
          have hbA := ((Below.refl w2.heap.size w2).alloc (Nat.le_refl _) (.cells #[.int .i64 ((k : Int) + 1)] 3)).drew
          have hC4 : (fun w' => w'.cell? ⟨w.heap.size, k, none⟩ = some (.int .i64 ((k : Int) + 1))) (w2.alloc (.cells #[.int .i64 ((k : Int) + 1)] 3)).drew := (hbA.cell (p := ⟨w.heap.size, k, none⟩) (hallF.lt _ rfl).2).trans hC0
          have hsz3 := hbF.size
          refine OrdU.wp_region_U 8 (fun w' => w'.cell? ⟨w.heap.size, k, none⟩ = some (.int .i64 ((k : Int) + 1))) (by kernel_rfl) hC0 (fun hHeld => ?_)
          refine OrdU.wpAnyU_take (i := 0) (oi := ⟨some 41, _, _, _, _, none⟩) (v := ?_) rfl (by kernel_rfl) (by kernel_rfl) (by kernel_rfl) (by decide) (by kernel_rfl) (fun _ _ _ h => h) (Or.inl ⟨by rfl, ?_⟩) (by assumption) ?_
          rotate_left
          · intro w hSw; (try dsimp only at hSw); go_simp; try with_reducible rfl
          try simp only [Act.put, List.setIfInBounds_toArray, List.set_cons_zero, List.set_cons_succ]
          refine OrdU.wpAnyU_take (i := 1) (oi := ⟨some 42, _, _, _, _, none⟩) (v := ?_) rfl (by kernel_rfl) (by kernel_rfl) (by kernel_rfl) (by decide) (by kernel_rfl) (fun _ _ _ h => h) (Or.inl ⟨by rfl, ?_⟩) (by assumption) ?_
          rotate_left
          · intro w hSw; (try dsimp only at hSw); go_simp; try with_reducible rfl
          try simp only [Act.put, List.setIfInBounds_toArray, List.set_cons_zero, List.set_cons_succ]
          refine OrdU.wpAnyU_take (i := 2) (oi := ⟨some 43, _, _, _, _, none⟩) (v := ?_) rfl (by kernel_rfl) (by kernel_rfl) (by kernel_rfl) (by decide) (by kernel_rfl) (fun _ _ _ h => h) (Or.inl ⟨by rfl, ?_⟩) (by assumption) ?_
          rotate_left
          · intro w hSw; (try dsimp only at hSw); go_simp; try with_reducible rfl
          try simp only [Act.put, List.setIfInBounds_toArray, List.set_cons_zero, List.set_cons_succ]
          refine OrdU.wpAnyU_take (i := 3) (oi := ⟨some 44, _, _, _, _, none⟩) (v := ?_) rfl (by kernel_rfl) (by kernel_rfl) (by kernel_rfl) (by decide) (by kernel_rfl) (fun _ _ _ h => h) (Or.inl ⟨by rfl, ?_⟩) (by assumption) ?_
          rotate_left
          · intro w hSw; (try dsimp only at hSw); go_simp; try with_reducible rfl
          try simp only [Act.put, List.setIfInBounds_toArray, List.set_cons_zero, List.set_cons_succ]
          refine OrdU.wpAnyU_take (i := 4) (oi := ⟨some 45, _, _, _, _, none⟩) (v := ?_) rfl (by kernel_rfl) (by kernel_rfl) (by kernel_rfl) (by decide) (by kernel_rfl) (fun _ _ _ h => h) (Or.inl ⟨by rfl, ?_⟩) (by assumption) ?_
          rotate_left
          · intro w hSw; (try dsimp only at hSw); go_simp; try with_reducible rfl
          try simp only [Act.put, List.setIfInBounds_toArray, List.set_cons_zero, List.set_cons_succ]
          refine OrdU.wpAnyU_take (i := 5) (oi := ⟨some 46, _, _, _, _, none⟩) (v := ?_) rfl (by kernel_rfl) (by kernel_rfl) (by kernel_rfl) (by decide) (by kernel_rfl) (fun _ _ _ h => h) (Or.inl ⟨by rfl, ?_⟩) (by assumption) ?_
          rotate_left
          · intro w hSw; (try dsimp only at hSw); go_simp; try with_reducible rfl
          try simp only [Act.put, List.setIfInBounds_toArray, List.set_cons_zero, List.set_cons_succ]
          refine OrdU.wpAnyU_take (i := 6) (oi := ⟨some 47, _, _, _, _, none⟩) (v := ?_) rfl (by kernel_rfl) (by kernel_rfl) (by kernel_rfl) (by decide) (by kernel_rfl) (fun _ _ _ h => h) (Or.inl ⟨by rfl, ?_⟩) (by assumption) ?_
          rotate_left
          · intro w hSw; (try dsimp only at hSw); go_simp; try with_reducible rfl
          try simp only [Act.put, List.setIfInBounds_toArray, List.set_cons_zero, List.set_cons_succ]
          refine OrdU.wpAnyU_ready (rs := [7]) (by kernel_rfl) (by simp) ?_
          refine OrdU.AllReadyU.cons (o := ⟨some 48, _, _, _, _, none⟩) rfl (fun K' hK => ?_) OrdU.AllReadyU.nil
          go_simp
          refine hK.out _ _ (fun _ => hC4) (fun hHeld => ?_)
          replace hHeld := hHeld (by kernel_rfl)
          clear hK K'
          try simp only [Act.put, List.setIfInBounds_toArray, List.set_cons_zero, List.set_cons_succ]
          refine OrdU.wpAnyU_ready (rs := [8]) (by kernel_rfl) (by simp) ?_
          refine OrdU.AllReadyU.cons (o := ⟨some 49, _, _, _, _, none⟩) rfl (fun K' hK => ?_) OrdU.AllReadyU.nil
          refine step_append_lies _ (by rfl) _ _ _ (by rfl) w.heap.size 3 ig _ 1 8 Tryz.underlying22 hig hz0 hz1 hz2 rfl (by omega) _ o _ (by rfl) ((hp2.alloc _).drew) ⟨w2.heap.size, 0, none⟩ 1 1 [.int .i64 ((k : Int) + 1)] (by rfl) (by rfl) (World.news_of_block (cs := #[.int .i64 ((k : Int) + 1)]) (t := 3) (fr := (0, 0)) (heap_alloc_new w2 _)) (by simp [Value.oneCell']) (by omega) (by simp only [maxLen]; omega) (by omega) (by simp; omega) (w2.heap.size + 1) (by simp) ?_
          intro gg cap4 w5 hown hgr hat hlt5
          refine hK.out _ _ (OrdU.no (by kernel_rfl)) (fun _ => ?_)
          clear hK K'
          try simp only [Act.put, List.setIfInBounds_toArray, List.set_cons_zero, List.set_cons_succ]
          refine OrdU.wpAnyU_ready (rs := [9]) (by kernel_rfl) (by simp) ?_
          refine OrdU.AllReadyU.cons (o := ⟨some 4, _, _, _, _, none⟩) rfl (fun K' hK => ?_) OrdU.AllReadyU.nil
          go_simp
          refine hK.out _ _ (OrdU.no (by kernel_rfl)) (fun _ => ?_)
          clear hK K'
          try simp only [Act.put, List.setIfInBounds_toArray, List.set_cons_zero, List.set_cons_succ]
          refine OrdU.wpAnyU_done (by kernel_rfl) ?_ _
          have HF := Lib.hid (ends_done (v := .slice (some ⟨pb, 0, none⟩) o pc) HH.out hallF hbF (fun e => hne (Option.some.inj e)) (fun i e => (hp2.lt i e).1) hown (by rw [← HT.out, List.take_of_length_le (by rw [eFrom_len]; exact Nat.le_refl _), icells_snoc]) hgr hat)
          clear hown hgr hat hC0 hC4 hbA
          go_wp2_with fail
          go_roundw
          case rel => exact HF.out
          case measure => simp [intOf] <;> omega

        · obtain ⟨A', hA'⟩ : ∃ A', A = A' + 1 := ⟨A - 1, by omega⟩
          have hrd := hAp A' hA'
          rw [hco] at hrd
          have hrd1 := own_read (by rw [eFrom_len]; exact hp1) hrd
          have i5 : (o : Int) ≤ (pc : Int) := by omega
          have i6 : (0 : Int) ≤ (o : Int) := by omega
          have i7 : (o : Int) < (c : Int) := by omega
          clear hA0 hAp hA' hco hrd ho
          go_wp2_with (first | (go_at_call 52; (with_reducible refine (HA.out _).mono ?_); rintro e w2 ⟨rfl, hb2⟩; have hall2 := own_of_block hall1 (fun i e => hb2.block i (hall1.lt i e).2); have hp2 := own_of_block hp1 (fun i e => hb2.block i (hp1.lt i e).2); have hrd2 : w2.cell? ⟨pb, o, none⟩ = some (.int .i64 (bh : Nat)) := (hb2.cell (p := ⟨pb, o, none⟩) (hp1.lt _ rfl).2).trans (by rw [HBH.out] at hrd1; exact hrd1); have hfz2 := World.ownsRow.frozenAt hall2 k; have hcz2 : ∃ z, w2.cell? ⟨w.heap.size, k, none⟩ = some (.int .i64 z) := ⟨_, own_read (hall1L.symm ▸ hall2) (by rw [List.getElem?_set_self (by rw [HLL.out]; exact hk)])⟩; obtain ⟨z2, hcz2⟩ := hcz2) | fail)
          have hbF2 := hb1.trans (hb2.mono hb1.size)
          have hall3 := own_put (x := .int .i64 (bh : Nat)) hall2 rfl (i := k) (by rw [icells_length, hall1L]; exact hk)
          rw [icells_set, List.set_set] at hall3
          have hp3 := own_of_block hp2 (w' := w2.setCell ⟨w.heap.size, k, none⟩ (.int .i64 (bh : Nat))) (fun i e => Below.heap_setCell _ _ _ _ (fun q => hne ((Option.some.inj e).trans (by first | exact q | exact q.symm))))
          have hbF : Below w.heap.size w (w2.setCell ⟨w.heap.size, k, none⟩ (.int .i64 (bh : Nat))) := hbF2.setCell (p := ⟨w.heap.size, k, none⟩) (Nat.le_refl _) _
          have hpT := own_take hp3 (k := o) (by omega)
          obtain ⟨W3, hW3⟩ : ∃ W3, w2.setCell ⟨w.heap.size, k, none⟩ (.int .i64 (bh : Nat)) = W3 := ⟨_, rfl⟩
          rw [hW3] at hall3 hbF hpT
          rw [hW3]
          have hallF := hall3
          have hlenF : (L.set k ((bh : Nat) : Int)).length = xs.length := by rw [List.length_set]; exact HLL.out
          have hC0 : (fun w' => w'.cell? ⟨w.heap.size, k, none⟩ = some (.int .i64 ((bh : Nat)))) W3.drew := own_read (hlenF.symm ▸ hallF) (by rw [List.getElem?_set_self (by rw [HLL.out]; exact hk)])
          have hbA := ((Below.refl W3.heap.size W3).alloc (Nat.le_refl _) (.cells #[.int .i64 ((bh : Nat))] 3)).drew
          have hC4 : (fun w' => w'.cell? ⟨w.heap.size, k, none⟩ = some (.int .i64 ((bh : Nat)))) (W3.alloc (.cells #[.int .i64 ((bh : Nat))] 3)).drew := (hbA.cell (p := ⟨w.heap.size, k, none⟩) (hallF.lt _ rfl).2).trans hC0
          have hsz3 := hbF.size
          refine OrdU.wp_region_U 8 (fun w' => w'.cell? ⟨w.heap.size, k, none⟩ = some (.int .i64 ((bh : Nat)))) (by kernel_rfl) hC0 (fun hHeld => ?_)
          refine OrdU.wpAnyU_take (i := 0) (oi := ⟨some 41, _, _, _, _, none⟩) (v := ?_) rfl (by kernel_rfl) (by kernel_rfl) (by kernel_rfl) (by decide) (by kernel_rfl) (fun _ _ _ h => h) (Or.inl ⟨by rfl, ?_⟩) (by assumption) ?_
          rotate_left
          · intro w hSw; (try dsimp only at hSw); go_simp; try with_reducible rfl
          try simp only [Act.put, List.setIfInBounds_toArray, List.set_cons_zero, List.set_cons_succ]
          refine OrdU.wpAnyU_take (i := 1) (oi := ⟨some 42, _, _, _, _, none⟩) (v := ?_) rfl (by kernel_rfl) (by kernel_rfl) (by kernel_rfl) (by decide) (by kernel_rfl) (fun _ _ _ h => h) (Or.inl ⟨by rfl, ?_⟩) (by assumption) ?_
          rotate_left
          · intro w hSw; (try dsimp only at hSw); go_simp; try with_reducible rfl
          try simp only [Act.put, List.setIfInBounds_toArray, List.set_cons_zero, List.set_cons_succ]
          refine OrdU.wpAnyU_take (i := 2) (oi := ⟨some 43, _, _, _, _, none⟩) (v := ?_) rfl (by kernel_rfl) (by kernel_rfl) (by kernel_rfl) (by decide) (by kernel_rfl) (fun _ _ _ h => h) (Or.inl ⟨by rfl, ?_⟩) (by assumption) ?_
          rotate_left
          · intro w hSw; (try dsimp only at hSw); go_simp; try with_reducible rfl
          try simp only [Act.put, List.setIfInBounds_toArray, List.set_cons_zero, List.set_cons_succ]
          refine OrdU.wpAnyU_take (i := 3) (oi := ⟨some 44, _, _, _, _, none⟩) (v := ?_) rfl (by kernel_rfl) (by kernel_rfl) (by kernel_rfl) (by decide) (by kernel_rfl) (fun _ _ _ h => h) (Or.inl ⟨by rfl, ?_⟩) (by assumption) ?_
          rotate_left
          · intro w hSw; (try dsimp only at hSw); go_simp; try with_reducible rfl
          try simp only [Act.put, List.setIfInBounds_toArray, List.set_cons_zero, List.set_cons_succ]
          refine OrdU.wpAnyU_take (i := 4) (oi := ⟨some 45, _, _, _, _, none⟩) (v := ?_) rfl (by kernel_rfl) (by kernel_rfl) (by kernel_rfl) (by decide) (by kernel_rfl) (fun _ _ _ h => h) (Or.inl ⟨by rfl, ?_⟩) (by assumption) ?_
          rotate_left
          · intro w hSw; (try dsimp only at hSw); go_simp; try with_reducible rfl
          try simp only [Act.put, List.setIfInBounds_toArray, List.set_cons_zero, List.set_cons_succ]
          refine OrdU.wpAnyU_take (i := 5) (oi := ⟨some 46, _, _, _, _, none⟩) (v := ?_) rfl (by kernel_rfl) (by kernel_rfl) (by kernel_rfl) (by decide) (by kernel_rfl) (fun _ _ _ h => h) (Or.inl ⟨by rfl, ?_⟩) (by assumption) ?_
          rotate_left
          · intro w hSw; (try dsimp only at hSw); go_simp; try with_reducible rfl
          try simp only [Act.put, List.setIfInBounds_toArray, List.set_cons_zero, List.set_cons_succ]
          refine OrdU.wpAnyU_take (i := 6) (oi := ⟨some 47, _, _, _, _, none⟩) (v := ?_) rfl (by kernel_rfl) (by kernel_rfl) (by kernel_rfl) (by decide) (by kernel_rfl) (fun _ _ _ h => h) (Or.inl ⟨by rfl, ?_⟩) (by assumption) ?_
          rotate_left
          · intro w hSw; (try dsimp only at hSw); go_simp; try with_reducible rfl
          try simp only [Act.put, List.setIfInBounds_toArray, List.set_cons_zero, List.set_cons_succ]
          refine OrdU.wpAnyU_ready (rs := [7]) (by kernel_rfl) (by simp) ?_
          refine OrdU.AllReadyU.cons (o := ⟨some 48, _, _, _, _, none⟩) rfl (fun K' hK => ?_) OrdU.AllReadyU.nil
          go_simp
          refine hK.out _ _ (fun _ => hC4) (fun hHeld => ?_)
          replace hHeld := hHeld (by kernel_rfl)
          clear hK K'
          try simp only [Act.put, List.setIfInBounds_toArray, List.set_cons_zero, List.set_cons_succ]
          refine OrdU.wpAnyU_ready (rs := [8]) (by kernel_rfl) (by simp) ?_
          refine OrdU.AllReadyU.cons (o := ⟨some 49, _, _, _, _, none⟩) rfl (fun K' hK => ?_) OrdU.AllReadyU.nil
          refine step_append_lies _ (by rfl) _ _ _ (by rfl) w.heap.size 3 ig _ 1 8 Tryz.underlying22 hig hz0 hz1 hz2 rfl (by omega) _ o _ (by rfl) ((hpT.alloc _).drew) ⟨W3.heap.size, 0, none⟩ 1 1 [.int .i64 ((bh : Nat))] (by rfl) (by rfl) (World.news_of_block (cs := #[.int .i64 ((bh : Nat))]) (t := 3) (fr := (0, 0)) (heap_alloc_new W3 _)) (by simp [Value.oneCell']) (by omega) (by simp only [maxLen]; omega) (by omega) (by simp; omega) (W3.heap.size + 1) (by simp) ?_
          intro gg cap4 w5 hown hgr hat hlt5
          refine hK.out _ _ (OrdU.no (by kernel_rfl)) (fun _ => ?_)
          clear hK K'
          try simp only [Act.put, List.setIfInBounds_toArray, List.set_cons_zero, List.set_cons_succ]
          refine OrdU.wpAnyU_ready (rs := [9]) (by kernel_rfl) (by simp) ?_
          refine OrdU.AllReadyU.cons (o := ⟨some 4, _, _, _, _, none⟩) rfl (fun K' hK => ?_) OrdU.AllReadyU.nil
          go_simp
          refine hK.out _ _ (OrdU.no (by kernel_rfl)) (fun _ => ?_)
          clear hK K'
          try simp only [Act.put, List.setIfInBounds_toArray, List.set_cons_zero, List.set_cons_succ]
          refine OrdU.wpAnyU_done (by kernel_rfl) ?_ _
          have HF := Lib.hid (ends_done (v := .slice (some ⟨pb, 0, none⟩) o pc) HH.out hallF hbF (fun e => hne (Option.some.inj e)) (fun i e => (hpT.lt i e).1) hown (by rw [← HT.out, icells_snoc]; unfold icells; rw [List.map_take, Nat.mul_one]) hgr hat)
          clear hown hgr hat hC0 hC4 hbA
          go_wp2_with fail
          go_roundw
          case rel => exact HF.out
          case measure => simp [intOf] <;> omega

end Go.Proofs.YtodejloonfkkmaaGreat.Mach
