/-
  The laws of layer 9, walked on what the package's functions come to: a variable more.
-/
import Derived.Test.YteknfglfbkknaaaKindsLawE0
namespace Go.Proofs.Yteknfglfbkknaaa.Kinds
open Go.RowKit Mem _root_.Go.Proofs.Yteknfglfbkknaaa.Arena
set_option linter.unusedVariables false
set_option linter.unusedSimpArgs false
attribute [local go_sem ↓] Go.wp_at_zero Go.wp_at_succ

/-- Nothing is put behind an empty slice. -/
theorem step_append_nothing {ops : Array Oper} {o : Oper} {a : Act} {w : World} {K : Act → World → Prop} {Q : Exit → Act → World → Prop} {E : Prop} (hgd : o.guard = none) (s x : Operand)
    (ho : o.op = .call { callee := .builtin .append, args := #[s, x], argTypes := #[22, 22] }) (g : Nat) (hs : a.eval s = .slice (some ⟨g, 0, none⟩) 0 0) (A : Option Addr) (c : Nat) (hx : a.eval x = .slice A 0 c)
    (h : K (a.put o.dst (.slice (some ⟨g, 0, none⟩) 0 0)) w) : if Region.wanted o (yielded ops a.tmps) = true then Oper.wp Try.prog o a w K Q else E := by
  have hw : Region.wanted o (yielded ops a.tmps) = true := by simp [Region.wanted, hgd]
  rw [if_pos hw]
  have hrun : (Builtin.append_ #[22, 22] o.type #[.slice (some ⟨g, 0, none⟩) 0 0, .slice A 0 c]).run Try.prog w = .ok (.slice (some ⟨g, 0, none⟩) 0 0) w := by
    cases A <;> rfl
  unfold Oper.wp
  simp [execOp, ho, resolve, invoke, builtin, hs, hx, hrun, Result.andThen]
  first | exact h | exact .inl h

set_option maxRecDepth 100000 in
set_option maxHeartbeats 16000000 in
theorem vars_none (C : Pkg) (ps : Int) (A : Option Addr) (c : Nat) (B : Option Addr) (ce : Nat) (xs : List Nd) (t : Int) (w : World) (hp : Prg.In (⟨ps, A, c, [], B, ce, xs⟩ : Prg) w)
    (hf : fewB (⟨ps, A, c, [], B, ce, xs⟩ : Prg) = true) (hc : pcheck ps ([] : List Int) xs = 0) (h0 : ¬ t < 0) (h1 : ¬ 9 < t) :
    Calls Try.prog 7 #[.agg #[.int .i64 ps, .slice A 0 c, .slice B xs.length ce], .int .i64 t] w fun e w' => e = .returned (.bool true) ∧ Below w.heap.size w w' := by
  have hB0 : Below w.heap.size w (w.alloc (.cells #[.int .i64 ps, .slice A 0 c, .slice B xs.length ce] 25)) := (Below.refl _ _).alloc (Nat.le_refl _) _
  have bX := Blk.new w 25 #[.int .i64 ps, .slice A 0 c, .slice B xs.length ce]
  have HP := Lib.hid (hp.at hB0)
  have hgl := bX.lt
  have HBX := Lib.hid (fun W (h : Below (w.alloc (.cells #[.int .i64 ps, .slice A 0 c, .slice B xs.length ce] 25)).heap.size (w.alloc (.cells #[.int .i64 ps, .slice A 0 c, .slice B xs.length ce] 25)) W) => (bX.below h hgl).three)
  have HW := Lib.hid (fun W => works_any C W)
  have HF := Lib.hid (fun W => show Calls Try.prog 10 #[.agg #[.int .i64 ps, .slice A 0 c, .slice B xs.length ce]] W (fun e w' => e = .returned (.bool (fewB (⟨ps, A, c, [], B, ce, xs⟩ : Prg))) ∧ Below W.heap.size W w') from ref_Few_any (⟨ps, A, c, [], B, ce, xs⟩ : Prg) W)
  have HCK := Lib.hid (fun W (h : (⟨ps, A, c, [], B, ce, xs⟩ : Prg).Ok W) => show Calls Try.prog 12 #[.agg #[.int .i64 ps, .slice A 0 c, .slice B xs.length ce]] W (fun e w' => e = .returned (.int .i64 (pcheck ps ([] : List Int) xs)) ∧ Below W.heap.size W w') from C.check (⟨ps, A, c, [], B, ce, xs⟩ : Prg) W h)
  obtain ⟨q1, q2⟩ := few_ok hf
  simp only at q1 q2
  have hlv : ([] : List Int).length ≤ 20 := by
    unfold fewB at hf
    rw [Bool.and_eq_true, decide_eq_true_eq, decide_eq_true_eq] at hf
    exact hf.2
  rw [hf] at HF
  rw [hc] at HCK
  obtain ⟨k1, k2⟩ := pcheck_more t ⟨by omega, by omega⟩ hc
  obtain ⟨ig, hig, hz0, hz1, hz2⟩ := info_parts info_int
  have HCN := Lib.hid (fun g cap W (h : (⟨ps, A, c, [], B, ce, xs⟩ : Prg).Ok W) (h3 : IRow W W.heap.size (some ⟨g, 0, none⟩) (([] : List Int) ++ [t])) (h1 : 1 ≤ cap) =>
    show Calls Try.prog 12 #[.agg #[.int .i64 ps, .slice (some ⟨g, 0, none⟩) 1 cap, .slice B xs.length ce]] W (fun e w' => e = .returned (.int .i64 0) ∧ Below W.heap.size W w') from by
      have q := C.check ⟨ps, some ⟨g, 0, none⟩, cap, ([] : List Int) ++ [t], B, ce, xs⟩ W ⟨h3, h.body, by simp, h.lx, by simp; omega, h.ce, (fun e => by cases e), h.nb⟩
      rw [show pcheck ps (([] : List Int) ++ [t]) xs = _ from k1] at q
      simpa using q)
  have HON := Lib.hid (fun g cap W (h : (⟨ps, A, c, [], B, ce, xs⟩ : Prg).Ok W) (h3 : IRow W W.heap.size (some ⟨g, 0, none⟩) (([] : List Int) ++ [t])) (h1 : 1 ≤ cap) =>
    show Calls Try.prog 19 #[.agg #[.int .i64 ps, .slice (some ⟨g, 0, none⟩) 1 cap, .slice B xs.length ce], .int .i64 0] W (fun e w' => e = .returned (.int .i64 2) ∧ Below W.heap.size W w') from by
      have q := C.of ⟨ps, some ⟨g, 0, none⟩, cap, ([] : List Int) ++ [t], B, ce, xs⟩ 0 W ⟨h3, h.body, by simp, h.lx, by simp; omega, h.ce, (fun e => by cases e), h.nb⟩
      rw [show okind (([] : List Int) ++ [t]) xs 0 = 2 from k2] at q
      simpa using q)
  clear hp bX hc hf k1 k2
  go_enter Try.func7, Try.ntmps7
  go_wp2_with (first
    | (go_at_call 9; refine (HW.out _).mono ?_; rintro e w2 ⟨rfl, hb2⟩; obtain ⟨b0, b1, b2⟩ := HBX.out _ hb2)
    | (go_at_call 10; refine (HF.out _).mono ?_; rintro e w3 ⟨rfl, hb⟩; have hb3 := hb2.trans (hb.mono hb2.size); obtain ⟨b0, b1, b2⟩ := HBX.out _ hb3)
    | (go_at_call 12; have hP3 := (HP.out.at hb3).ok q1 q2; refine (HCK.out _ hP3).mono ?_; rintro e w4 ⟨rfl, hb⟩; have hP4 := hP3.at hb; have hb4 := hb3.trans (hb.mono hb3.size); obtain ⟨b0, b1, b2⟩ := HBX.out _ hb4))
  have hC := And.intro b0 (And.intro b1 b2)
  refine wp_region_noPanic ?_
  refine wp_region_held_drew (S := (fun w' => w'.cell? ⟨w.heap.size, 0, none⟩ = some (.int .i64 ps) ∧ w'.cell? ⟨w.heap.size, 1, none⟩ = some (.slice A 0 c) ∧ w'.cell? ⟨w.heap.size, 2, none⟩ = some (.slice B xs.length ce))) (by kernel_rfl) hC (fun hHeld => ?_)
  refine wpAnyH_take (i := 0) (oi := { dst := some 30, op := Op.fieldAddr 25 (Operand.tmp 2) 0, type := 0, pos := "law.go:95", after := #[], guard := none }) (v := ?_) rfl (by kernel_rfl) (by kernel_rfl) (by kernel_rfl) (fun _ _ _ h => h) (Or.inl ⟨by rfl, ?_⟩) (by assumption) ?_
  rotate_left
  · (intro w hSw; (try dsimp only at hSw); go_simp; (try with_reducible rfl))
  try simp only [Act.put, List.setIfInBounds_toArray, List.set_cons_zero, List.set_cons_succ]
  refine wpAnyH_take (i := 1) (oi := { dst := some 31, op := Op.load 3 (Operand.tmp 30), type := 3, pos := "law.go:95", after := #[{ on := 0, ground := Ground.data }], guard := none }) (v := ?_) rfl (by kernel_rfl) (by kernel_rfl) (by kernel_rfl) (fun _ _ _ h => h) (Or.inl ⟨by rfl, ?_⟩) (by assumption) ?_
  rotate_left
  · (intro w hSw; (try dsimp only at hSw); go_simp; (try with_reducible rfl))
  try simp only [Act.put, List.setIfInBounds_toArray, List.set_cons_zero, List.set_cons_succ]
  refine wpAnyH_take (i := 3) (oi := { dst := some 33, op := Op.fieldAddr 25 (Operand.tmp 2) 1, type := 0, pos := "law.go:95", after := #[], guard := none }) (v := ?_) rfl (by kernel_rfl) (by kernel_rfl) (by kernel_rfl) (fun _ _ _ h => h) (Or.inl ⟨by rfl, ?_⟩) (by assumption) ?_
  rotate_left
  · (intro w hSw; (try dsimp only at hSw); go_simp; (try with_reducible rfl))
  try simp only [Act.put, List.setIfInBounds_toArray, List.set_cons_zero, List.set_cons_succ]
  refine wpAnyH_take (i := 4) (oi := { dst := some 34, op := Op.load 22 (Operand.tmp 33), type := 22, pos := "law.go:95", after := #[{ on := 3, ground := Ground.data }], guard := none }) (v := ?_) rfl (by kernel_rfl) (by kernel_rfl) (by kernel_rfl) (fun _ _ _ h => h) (Or.inl ⟨by rfl, ?_⟩) (by assumption) ?_
  rotate_left
  · (intro w hSw; (try dsimp only at hSw); go_simp; (try with_reducible rfl))
  try simp only [Act.put, List.setIfInBounds_toArray, List.set_cons_zero, List.set_cons_succ]
  refine wpAnyH_take (i := 6) (oi := { dst := some 36, op := Op.move (Operand.tmp 1), type := 3, pos := "law.go:95", after := #[], guard := none }) (v := ?_) rfl (by kernel_rfl) (by kernel_rfl) (by kernel_rfl) (fun _ _ _ h => h) (Or.inl ⟨by rfl, ?_⟩) (by assumption) ?_
  rotate_left
  · (intro w hSw; (try dsimp only at hSw); go_simp; (try with_reducible rfl))
  try simp only [Act.put, List.setIfInBounds_toArray, List.set_cons_zero, List.set_cons_succ]
  refine wpAnyH_take (i := 9) (oi := { dst := some 39, op := Op.fieldAddr 25 (Operand.tmp 2) 2, type := 0, pos := "law.go:95", after := #[], guard := none }) (v := ?_) rfl (by kernel_rfl) (by kernel_rfl) (by kernel_rfl) (fun _ _ _ h => h) (Or.inl ⟨by rfl, ?_⟩) (by assumption) ?_
  rotate_left
  · (intro w hSw; (try dsimp only at hSw); go_simp; (try with_reducible rfl))
  try simp only [Act.put, List.setIfInBounds_toArray, List.set_cons_zero, List.set_cons_succ]
  refine wpAnyH_take (i := 10) (oi := { dst := some 40, op := Op.load 23 (Operand.tmp 39), type := 23, pos := "law.go:95", after := #[{ on := 9, ground := Ground.data }], guard := none }) (v := ?_) rfl (by kernel_rfl) (by kernel_rfl) (by kernel_rfl) (fun _ _ _ h => h) (Or.inl ⟨by rfl, ?_⟩) (by assumption) ?_
  rotate_left
  · (intro w hSw; (try dsimp only at hSw); go_simp; (try with_reducible rfl))
  try simp only [Act.put, List.setIfInBounds_toArray, List.set_cons_zero, List.set_cons_succ]
  have hbv0 : Below w4.heap.size w4 w4.drew := (Below.refl _ _).drew
  have hsv0 : w4.drew.heap.size = w4.heap.size := rfl
  obtain ⟨v0, ev0⟩ : ∃ x, w4.drew = x := ⟨_, rfl⟩
  rw [ev0] at hbv0 hsv0 hHeld ⊢
  clear ev0
  replace hsv0 := Lib.hid hsv0
  refine wpAnyH_ready (rs := [2, 7, 12]) (by kernel_rfl) (by simp) ?_
  refine (AllReadyH.cons (o := { dst := some 32, op := Op.buildSlice 22 0 #[], type := 22, pos := "law.go:95", after := #[], guard := none }) rfl (fun K hK => ?_) (AllReadyH.cons (o := { dst := some 37, op := Op.buildSlice 22 1 #[(0, Operand.tmp 36)], type := 22, pos := "law.go:95", after := #[{ on := 6, ground := Ground.data }], guard := none }) rfl (fun K hK => ?_) (AllReadyH.cons (o := { dst := some 7, op := Op.alloc 25, type := 0, pos := "law.go:95", after := #[], guard := none }) rfl (fun K hK => ?_) AllReadyH.nil)))
  · go_simp
    have hbv68 := hbv0.alloc (hbv0.size) (.cells #[] 3)
    have bEv68 : Blk (v0.alloc (.cells #[] 3)) v0.heap.size 3 #[] := Blk.new v0 _ _
    have hsv68 : (v0.alloc (.cells #[] 3)).heap.size = v0.heap.size + 1 := World.size_alloc _ _
    refine hK.out _ _ ?_ (fun hHeld => ?_)
    · exact HBX.out _ (hb4.trans (hbv68.mono hb4.size))
    clear hK K
    try simp only [Act.put, List.setIfInBounds_toArray, List.set_cons_zero, List.set_cons_succ]
    obtain ⟨v68, ev68⟩ : ∃ x, v0.alloc (.cells #[] 3) = x := ⟨_, rfl⟩
    rw [ev68] at hbv68 bEv68 hsv68 hHeld ⊢
    clear ev68
    replace hsv68 := Lib.hid hsv68
    refine wpAnyH_ready (rs := [5, 7, 12]) (by kernel_rfl) (by simp) ?_
    refine (AllReadyH.cons (o := { dst := some 35, op := Op.call { callee := Callee.builtin Builtin.append, args := #[Operand.tmp 32, Operand.tmp 34], argTypes := #[22, 22] }, type := 22, pos := "law.go:95", after := #[{ on := 2, ground := Ground.data }, { on := 4, ground := Ground.data }], guard := none }) rfl (fun K hK => ?_) (AllReadyH.cons (o := { dst := some 37, op := Op.buildSlice 22 1 #[(0, Operand.tmp 36)], type := 22, pos := "law.go:95", after := #[{ on := 6, ground := Ground.data }], guard := none }) rfl (fun K hK => ?_) (AllReadyH.cons (o := { dst := some 7, op := Op.alloc 25, type := 0, pos := "law.go:95", after := #[], guard := none }) rfl (fun K hK => ?_) AllReadyH.nil)))
    · refine step_append_nothing rfl _ _ rfl v0.heap.size rfl A c rfl ?_
      refine hK.out _ _ ?_ (fun hHeld => ?_)
      · exact HBX.out _ (hb4.trans (hbv68.mono hb4.size))
      clear hK K
      try simp only [Act.put, List.setIfInBounds_toArray, List.set_cons_zero, List.set_cons_succ]
      have hR5v69 := row0 (base := w4.heap.size) bEv68 (show w4.heap.size ≤ v0.heap.size from (by have a0 := hsv0.out; have a1 := hsv68.out; omega))
      refine wpAnyH_ready (rs := [7, 12]) (by kernel_rfl) (by simp) ?_
      refine (AllReadyH.cons (o := { dst := some 37, op := Op.buildSlice 22 1 #[(0, Operand.tmp 36)], type := 22, pos := "law.go:95", after := #[{ on := 6, ground := Ground.data }], guard := none }) rfl (fun K hK => ?_) (AllReadyH.cons (o := { dst := some 7, op := Op.alloc 25, type := 0, pos := "law.go:95", after := #[], guard := none }) rfl (fun K hK => ?_) AllReadyH.nil))
      · go_simp
        have hbv70 := hbv68.alloc (hbv68.size) (.cells #[.int .i64 t] 3)
        have bCv70 : Blk (v68.alloc (.cells #[.int .i64 t] 3)) v68.heap.size 3 #[.int .i64 t] := Blk.new v68 _ _
        have hsv70 : (v68.alloc (.cells #[.int .i64 t] 3)).heap.size = v68.heap.size + 1 := World.size_alloc _ _
        have hR5v70 := (hR5v69).alloc (.cells #[.int .i64 t] 3)
        refine hK.out _ _ ?_ (fun hHeld => ?_)
        · exact HBX.out _ (hb4.trans (hbv70.mono hb4.size))
        clear hK K
        try simp only [Act.put, List.setIfInBounds_toArray, List.set_cons_zero, List.set_cons_succ]
        obtain ⟨v70, ev70⟩ : ∃ x, v68.alloc (.cells #[.int .i64 t] 3) = x := ⟨_, rfl⟩
        rw [ev70] at hbv70 bCv70 hsv70 hR5v70 hHeld ⊢
        clear ev70
        replace hsv70 := Lib.hid hsv70
        refine wpAnyH_ready (rs := [8, 12]) (by kernel_rfl) (by simp) ?_
        refine (AllReadyH.cons (o := { dst := some 38, op := Op.call { callee := Callee.builtin Builtin.append, args := #[Operand.tmp 35, Operand.tmp 37], argTypes := #[22, 22] }, type := 22, pos := "law.go:95", after := #[{ on := 5, ground := Ground.data }, { on := 7, ground := Ground.data }, { on := 5, ground := Ground.chain }], guard := none }) rfl (fun K hK => ?_) (AllReadyH.cons (o := { dst := some 7, op := Op.alloc 25, type := 0, pos := "law.go:95", after := #[], guard := none }) rfl (fun K hK => ?_) AllReadyH.nil))
        · refine step_append_lies _ (by rfl) _ _ _ (by rfl) w4.heap.size 3 ig _ 1 8 Try.underlying22 hig hz0 hz1 hz2 rfl (by omega) _ 0 [] (by rfl) hR5v70 ⟨v68.heap.size, 0, none⟩ 1 1 [.int .i64 t] (by rfl) (by rfl) (World.news_of_block (cs := #[.int .i64 t]) (t := 3) (fr := (0, 0)) bCv70) (by simp [Value.oneCell']) (by omega) (by simp only [maxLen]; omega) (by omega) (hbv70.size) (v70.heap.size) rfl ?_
          intro g8 cap8 v71 hR8v71 hgrow hat hlt
          have hbv71 := hbv70.grown hgrow (hbv70.size) (fun k e => ((hR5v70).lt k e).1)
          have hsv71 := Lib.hid (hgrow.size)
          have hg8 := Lib.hid (show g8 = v0.heap.size ∨ g8 = v70.heap.size from by rcases hat with q | q; (exact .inl (Option.some.inj q).symm); exact .inr q)
          have hl8 := Lib.hid (hR8v71.lt _ rfl).2
          clear hgrow hat
          refine hK.out _ _ ?_ (fun hHeld => ?_)
          · exact HBX.out _ (hb4.trans (hbv71.mono hb4.size))
          clear hK K
          try simp only [Act.put, List.setIfInBounds_toArray, List.set_cons_zero, List.set_cons_succ]
          try simp only [Nat.zero_add]
          refine wpAnyH_take (i := 11) (oi := { dst := some 41, op := Op.build 25 #[(0, Operand.tmp 31), (1, Operand.tmp 38), (2, Operand.tmp 40)], type := 25, pos := "law.go:95", after := #[{ on := 1, ground := Ground.data }, { on := 8, ground := Ground.data }, { on := 10, ground := Ground.data }], guard := none }) (v := ?_) rfl (by kernel_rfl) (by kernel_rfl) (by kernel_rfl) (fun _ _ _ h => h) (Or.inl ⟨by rfl, ?_⟩) (by assumption) ?_
          rotate_left
          · (intro w hSw; (try dsimp only at hSw); go_simp; (try with_reducible rfl))
          try simp only [Act.put, List.setIfInBounds_toArray, List.set_cons_zero, List.set_cons_succ]
          refine wpAnyH_ready (rs := [12]) (by kernel_rfl) (by simp) ?_
          refine (AllReadyH.cons (o := { dst := some 7, op := Op.alloc 25, type := 0, pos := "law.go:95", after := #[], guard := none }) rfl (fun K hK => ?_) AllReadyH.nil)
          go_simp
          have hbv72 := hbv71.alloc (hbv71.size) (.cells #[.int .i64 0, .slice none 0 0, .slice none 0 0] 25)
          have bDv72 : Blk (v71.alloc (.cells #[.int .i64 0, .slice none 0 0, .slice none 0 0] 25)) v71.heap.size 25 #[.int .i64 0, .slice none 0 0, .slice none 0 0] := Blk.new v71 _ _
          have hsv72 : (v71.alloc (.cells #[.int .i64 0, .slice none 0 0, .slice none 0 0] 25)).heap.size = v71.heap.size + 1 := World.size_alloc _ _
          have hR8v72 := (hR8v71).alloc (.cells #[.int .i64 0, .slice none 0 0, .slice none 0 0] 25)
          refine hK.out _ _ ?_ (fun hHeld => ?_)
          · exact HBX.out _ (hb4.trans (hbv72.mono hb4.size))
          clear hK K
          try simp only [Act.put, List.setIfInBounds_toArray, List.set_cons_zero, List.set_cons_succ]
          obtain ⟨v72, ev72⟩ : ∃ x, v71.alloc (.cells #[.int .i64 0, .slice none 0 0, .slice none 0 0] 25) = x := ⟨_, rfl⟩
          rw [ev72] at hbv72 bDv72 hsv72 hR8v72 hHeld ⊢
          clear ev72
          replace hsv72 := Lib.hid hsv72
          refine wpAnyH_ready (rs := [13]) (by kernel_rfl) (by simp) ?_
          refine (AllReadyH.cons (o := { dst := none, op := Op.store 25 (Operand.tmp 7) (Operand.tmp 41), type := 0, pos := "law.go:95", after := #[{ on := 12, ground := Ground.data }, { on := 11, ground := Ground.data }, { on := 8, ground := Ground.chain }, { on := 0, ground := Ground.phase }, { on := 1, ground := Ground.phase }, { on := 2, ground := Ground.phase }, { on := 3, ground := Ground.phase }, { on := 4, ground := Ground.phase }, { on := 5, ground := Ground.phase }, { on := 6, ground := Ground.phase }, { on := 7, ground := Ground.phase }, { on := 8, ground := Ground.phase }, { on := 9, ground := Ground.phase }, { on := 10, ground := Ground.phase }, { on := 11, ground := Ground.phase }, { on := 12, ground := Ground.phase }], guard := none }) rfl (fun K hK => ?_) AllReadyH.nil)
          obtain ⟨z0, z1, z2⟩ := (bDv72).three
          have f0 := (bDv72).frozen 0
          have f1 := (bDv72).frozen 1
          have f2 := (bDv72).frozen 2
          go_simp
          have hgD := (show w4.heap.size ≤ v71.heap.size from (by have a0 := hsv0.out; have a1 := hsv68.out; have a2 := hsv70.out; have a3 := hsv71.out; have a4 := hg8.out; have a5 := hl8.out; have a6 := hsv72.out; omega))
          have bN : Blk (((v72.setCell ⟨v71.heap.size, 0, none⟩ (.int .i64 ps)).setCell ⟨v71.heap.size, 1, none⟩ (.slice (some ⟨g8, 0, none⟩) 1 cap8)).setCell ⟨v71.heap.size, 2, none⟩ (.slice B xs.length ce)) v71.heap.size 25 #[.int .i64 ps, .slice (some ⟨g8, 0, none⟩) 1 cap8, .slice B xs.length ce] := (((bDv72).set 0 (.int .i64 ps)).set 1 (.slice (some ⟨g8, 0, none⟩) 1 cap8)).set 2 (.slice B xs.length ce)
          have hbN := ((hbv72.setCell (p := ⟨v71.heap.size, 0, none⟩) hgD (.int .i64 ps)).setCell (p := ⟨v71.heap.size, 1, none⟩) hgD (.slice (some ⟨g8, 0, none⟩) 1 cap8)).setCell (p := ⟨v71.heap.size, 2, none⟩) hgD (.slice B xs.length ce)
          have hIN : IRow (((v72.setCell ⟨v71.heap.size, 0, none⟩ (.int .i64 ps)).setCell ⟨v71.heap.size, 1, none⟩ (.slice (some ⟨g8, 0, none⟩) 1 cap8)).setCell ⟨v71.heap.size, 2, none⟩ (.slice B xs.length ce)) (((v72.setCell ⟨v71.heap.size, 0, none⟩ (.int .i64 ps)).setCell ⟨v71.heap.size, 1, none⟩ (.slice (some ⟨g8, 0, none⟩) 1 cap8)).setCell ⟨v71.heap.size, 2, none⟩ (.slice B xs.length ce)).heap.size (some ⟨g8, 0, none⟩) ([] ++ [t]) := row_far3 (row_ints hR8v72 ) (show g8 ≠ v71.heap.size from (by have a0 := hsv0.out; have a1 := hsv68.out; have a2 := hsv70.out; have a3 := hsv71.out; have a4 := hg8.out; have a5 := hl8.out; have a6 := hsv72.out; omega)) _ _ _
          have hcp := own_cap2 hR8v72
          clear z0 z1 z2 f0 f1 f2
          refine hK.out _ _ ?_ (fun hHeld => ?_)
          · exact HBX.out _ (hb4.trans (hbN.mono hb4.size))
          clear hK K
          try simp only [Act.put, List.setIfInBounds_toArray, List.set_cons_zero, List.set_cons_succ]
          refine wpAnyH_done (by kernel_rfl) ?_ _
          refine NoPanic.normal ?_
          have hbF := (hb4.trans (hbN.mono hb4.size))
          have hPN := (HP.out.at hbF).ok q1 q2
          obtain ⟨b0, b1, b2⟩ := HBX.out _ hbF
          obtain ⟨d0, d1, d2⟩ := bN.three
          go_wp2_with (first
            | (go_at_call 12; refine (HCN.out _ _ _ hPN hIN hcp).mono ?_; rintro e w10 ⟨rfl, hb⟩; have hP10 := hPN.at hb; have hI10 := hIN.at hb; have hb10 := hbF.trans (hb.mono hbF.size); have bN10 := bN.below hb bN.lt; obtain ⟨d0, d1, d2⟩ := bN10.three)
            | (go_at_call 19; refine (HON.out _ _ _ hP10 hI10 hcp).mono ?_; rintro e w11 ⟨rfl, hb⟩; have hb11 := hb10.trans (hb.mono hb10.size)))
          go_ret
          exact ⟨ret_true (by simp), hB0.trans (hb11.mono hB0.size)⟩
        · go_simp
          have hbv74 := hbv70.alloc (hbv70.size) (.cells #[.int .i64 0, .slice none 0 0, .slice none 0 0] 25)
          have bDv74 : Blk (v70.alloc (.cells #[.int .i64 0, .slice none 0 0, .slice none 0 0] 25)) v70.heap.size 25 #[.int .i64 0, .slice none 0 0, .slice none 0 0] := Blk.new v70 _ _
          have hsv74 : (v70.alloc (.cells #[.int .i64 0, .slice none 0 0, .slice none 0 0] 25)).heap.size = v70.heap.size + 1 := World.size_alloc _ _
          have bCv74 := (bCv70).alloc (.cells #[.int .i64 0, .slice none 0 0, .slice none 0 0] 25)
          have hR5v74 := (hR5v70).alloc (.cells #[.int .i64 0, .slice none 0 0, .slice none 0 0] 25)
          refine hK.out _ _ ?_ (fun hHeld => ?_)
          · exact HBX.out _ (hb4.trans (hbv74.mono hb4.size))
          clear hK K
          try simp only [Act.put, List.setIfInBounds_toArray, List.set_cons_zero, List.set_cons_succ]
          obtain ⟨v74, ev74⟩ : ∃ x, v70.alloc (.cells #[.int .i64 0, .slice none 0 0, .slice none 0 0] 25) = x := ⟨_, rfl⟩
          rw [ev74] at hbv74 bDv74 hsv74 bCv74 hR5v74 hHeld ⊢
          clear ev74
          replace hsv74 := Lib.hid hsv74
          refine wpAnyH_ready (rs := [8]) (by kernel_rfl) (by simp) ?_
          refine (AllReadyH.cons (o := { dst := some 38, op := Op.call { callee := Callee.builtin Builtin.append, args := #[Operand.tmp 35, Operand.tmp 37], argTypes := #[22, 22] }, type := 22, pos := "law.go:95", after := #[{ on := 5, ground := Ground.data }, { on := 7, ground := Ground.data }, { on := 5, ground := Ground.chain }], guard := none }) rfl (fun K hK => ?_) AllReadyH.nil)
          refine step_append_lies _ (by rfl) _ _ _ (by rfl) w4.heap.size 3 ig _ 1 8 Try.underlying22 hig hz0 hz1 hz2 rfl (by omega) _ 0 [] (by rfl) hR5v74 ⟨v68.heap.size, 0, none⟩ 1 1 [.int .i64 t] (by rfl) (by rfl) (World.news_of_block (cs := #[.int .i64 t]) (t := 3) (fr := (0, 0)) bCv74) (by simp [Value.oneCell']) (by omega) (by simp only [maxLen]; omega) (by omega) (hbv74.size) (v74.heap.size) rfl ?_
          intro g8 cap8 v75 hR8v75 hgrow hat hlt
          have hbv75 := hbv74.grown hgrow (hbv74.size) (fun k e => ((hR5v74).lt k e).1)
          have hsv75 := Lib.hid (hgrow.size)
          have hg8 := Lib.hid (show g8 = v0.heap.size ∨ g8 = v74.heap.size from by rcases hat with q | q; (exact .inl (Option.some.inj q).symm); exact .inr q)
          have hl8 := Lib.hid (hR8v75.lt _ rfl).2
          have bDv75 := (bDv74).grown hgrow (fun hq => absurd (show v70.heap.size = v0.heap.size from Option.some.inj hq) (by have a0 := hsv0.out; have a1 := hsv68.out; have a2 := hsv70.out; have a3 := hsv74.out; omega))
          clear hgrow hat
          refine hK.out _ _ ?_ (fun hHeld => ?_)
          · exact HBX.out _ (hb4.trans (hbv75.mono hb4.size))
          clear hK K
          try simp only [Act.put, List.setIfInBounds_toArray, List.set_cons_zero, List.set_cons_succ]
          try simp only [Nat.zero_add]
          refine wpAnyH_take (i := 11) (oi := { dst := some 41, op := Op.build 25 #[(0, Operand.tmp 31), (1, Operand.tmp 38), (2, Operand.tmp 40)], type := 25, pos := "law.go:95", after := #[{ on := 1, ground := Ground.data }, { on := 8, ground := Ground.data }, { on := 10, ground := Ground.data }], guard := none }) (v := ?_) rfl (by kernel_rfl) (by kernel_rfl) (by kernel_rfl) (fun _ _ _ h => h) (Or.inl ⟨by rfl, ?_⟩) (by assumption) ?_
          rotate_left
          · (intro w hSw; (try dsimp only at hSw); go_simp; (try with_reducible rfl))
          try simp only [Act.put, List.setIfInBounds_toArray, List.set_cons_zero, List.set_cons_succ]
          refine wpAnyH_ready (rs := [13]) (by kernel_rfl) (by simp) ?_
          refine (AllReadyH.cons (o := { dst := none, op := Op.store 25 (Operand.tmp 7) (Operand.tmp 41), type := 0, pos := "law.go:95", after := #[{ on := 12, ground := Ground.data }, { on := 11, ground := Ground.data }, { on := 8, ground := Ground.chain }, { on := 0, ground := Ground.phase }, { on := 1, ground := Ground.phase }, { on := 2, ground := Ground.phase }, { on := 3, ground := Ground.phase }, { on := 4, ground := Ground.phase }, { on := 5, ground := Ground.phase }, { on := 6, ground := Ground.phase }, { on := 7, ground := Ground.phase }, { on := 8, ground := Ground.phase }, { on := 9, ground := Ground.phase }, { on := 10, ground := Ground.phase }, { on := 11, ground := Ground.phase }, { on := 12, ground := Ground.phase }], guard := none }) rfl (fun K hK => ?_) AllReadyH.nil)
          obtain ⟨z0, z1, z2⟩ := (bDv75).three
          have f0 := (bDv75).frozen 0
          have f1 := (bDv75).frozen 1
          have f2 := (bDv75).frozen 2
          go_simp
          have hgD := (show w4.heap.size ≤ v70.heap.size from (by have a0 := hsv0.out; have a1 := hsv68.out; have a2 := hsv70.out; have a3 := hsv74.out; have a4 := hsv75.out; have a5 := hg8.out; have a6 := hl8.out; omega))
          have bN : Blk (((v75.setCell ⟨v70.heap.size, 0, none⟩ (.int .i64 ps)).setCell ⟨v70.heap.size, 1, none⟩ (.slice (some ⟨g8, 0, none⟩) 1 cap8)).setCell ⟨v70.heap.size, 2, none⟩ (.slice B xs.length ce)) v70.heap.size 25 #[.int .i64 ps, .slice (some ⟨g8, 0, none⟩) 1 cap8, .slice B xs.length ce] := (((bDv75).set 0 (.int .i64 ps)).set 1 (.slice (some ⟨g8, 0, none⟩) 1 cap8)).set 2 (.slice B xs.length ce)
          have hbN := ((hbv75.setCell (p := ⟨v70.heap.size, 0, none⟩) hgD (.int .i64 ps)).setCell (p := ⟨v70.heap.size, 1, none⟩) hgD (.slice (some ⟨g8, 0, none⟩) 1 cap8)).setCell (p := ⟨v70.heap.size, 2, none⟩) hgD (.slice B xs.length ce)
          have hIN : IRow (((v75.setCell ⟨v70.heap.size, 0, none⟩ (.int .i64 ps)).setCell ⟨v70.heap.size, 1, none⟩ (.slice (some ⟨g8, 0, none⟩) 1 cap8)).setCell ⟨v70.heap.size, 2, none⟩ (.slice B xs.length ce)) (((v75.setCell ⟨v70.heap.size, 0, none⟩ (.int .i64 ps)).setCell ⟨v70.heap.size, 1, none⟩ (.slice (some ⟨g8, 0, none⟩) 1 cap8)).setCell ⟨v70.heap.size, 2, none⟩ (.slice B xs.length ce)).heap.size (some ⟨g8, 0, none⟩) ([] ++ [t]) := row_far3 (row_ints hR8v75 ) (show g8 ≠ v70.heap.size from (by have a0 := hsv0.out; have a1 := hsv68.out; have a2 := hsv70.out; have a3 := hsv74.out; have a4 := hsv75.out; have a5 := hg8.out; have a6 := hl8.out; omega)) _ _ _
          have hcp := own_cap2 hR8v75
          clear z0 z1 z2 f0 f1 f2
          refine hK.out _ _ ?_ (fun hHeld => ?_)
          · exact HBX.out _ (hb4.trans (hbN.mono hb4.size))
          clear hK K
          try simp only [Act.put, List.setIfInBounds_toArray, List.set_cons_zero, List.set_cons_succ]
          refine wpAnyH_done (by kernel_rfl) ?_ _
          refine NoPanic.normal ?_
          have hbF := (hb4.trans (hbN.mono hb4.size))
          have hPN := (HP.out.at hbF).ok q1 q2
          obtain ⟨b0, b1, b2⟩ := HBX.out _ hbF
          obtain ⟨d0, d1, d2⟩ := bN.three
          go_wp2_with (first
            | (go_at_call 12; refine (HCN.out _ _ _ hPN hIN hcp).mono ?_; rintro e w10 ⟨rfl, hb⟩; have hP10 := hPN.at hb; have hI10 := hIN.at hb; have hb10 := hbF.trans (hb.mono hbF.size); have bN10 := bN.below hb bN.lt; obtain ⟨d0, d1, d2⟩ := bN10.three)
            | (go_at_call 19; refine (HON.out _ _ _ hP10 hI10 hcp).mono ?_; rintro e w11 ⟨rfl, hb⟩; have hb11 := hb10.trans (hb.mono hb10.size)))
          go_ret
          exact ⟨ret_true (by simp), hB0.trans (hb11.mono hB0.size)⟩
      · go_simp
        have hbv77 := hbv68.alloc (hbv68.size) (.cells #[.int .i64 0, .slice none 0 0, .slice none 0 0] 25)
        have bDv77 : Blk (v68.alloc (.cells #[.int .i64 0, .slice none 0 0, .slice none 0 0] 25)) v68.heap.size 25 #[.int .i64 0, .slice none 0 0, .slice none 0 0] := Blk.new v68 _ _
        have hsv77 : (v68.alloc (.cells #[.int .i64 0, .slice none 0 0, .slice none 0 0] 25)).heap.size = v68.heap.size + 1 := World.size_alloc _ _
        have hR5v77 := (hR5v69).alloc (.cells #[.int .i64 0, .slice none 0 0, .slice none 0 0] 25)
        refine hK.out _ _ ?_ (fun hHeld => ?_)
        · exact HBX.out _ (hb4.trans (hbv77.mono hb4.size))
        clear hK K
        try simp only [Act.put, List.setIfInBounds_toArray, List.set_cons_zero, List.set_cons_succ]
        obtain ⟨v77, ev77⟩ : ∃ x, v68.alloc (.cells #[.int .i64 0, .slice none 0 0, .slice none 0 0] 25) = x := ⟨_, rfl⟩
        rw [ev77] at hbv77 bDv77 hsv77 hR5v77 hHeld ⊢
        clear ev77
        replace hsv77 := Lib.hid hsv77
        refine wpAnyH_ready (rs := [7]) (by kernel_rfl) (by simp) ?_
        refine (AllReadyH.cons (o := { dst := some 37, op := Op.buildSlice 22 1 #[(0, Operand.tmp 36)], type := 22, pos := "law.go:95", after := #[{ on := 6, ground := Ground.data }], guard := none }) rfl (fun K hK => ?_) AllReadyH.nil)
        go_simp
        have hbv78 := hbv77.alloc (hbv77.size) (.cells #[.int .i64 t] 3)
        have bCv78 : Blk (v77.alloc (.cells #[.int .i64 t] 3)) v77.heap.size 3 #[.int .i64 t] := Blk.new v77 _ _
        have hsv78 : (v77.alloc (.cells #[.int .i64 t] 3)).heap.size = v77.heap.size + 1 := World.size_alloc _ _
        have bDv78 := (bDv77).alloc (.cells #[.int .i64 t] 3)
        have hR5v78 := (hR5v77).alloc (.cells #[.int .i64 t] 3)
        refine hK.out _ _ ?_ (fun hHeld => ?_)
        · exact HBX.out _ (hb4.trans (hbv78.mono hb4.size))
        clear hK K
        try simp only [Act.put, List.setIfInBounds_toArray, List.set_cons_zero, List.set_cons_succ]
        obtain ⟨v78, ev78⟩ : ∃ x, v77.alloc (.cells #[.int .i64 t] 3) = x := ⟨_, rfl⟩
        rw [ev78] at hbv78 bCv78 hsv78 bDv78 hR5v78 hHeld ⊢
        clear ev78
        replace hsv78 := Lib.hid hsv78
        refine wpAnyH_ready (rs := [8]) (by kernel_rfl) (by simp) ?_
        refine (AllReadyH.cons (o := { dst := some 38, op := Op.call { callee := Callee.builtin Builtin.append, args := #[Operand.tmp 35, Operand.tmp 37], argTypes := #[22, 22] }, type := 22, pos := "law.go:95", after := #[{ on := 5, ground := Ground.data }, { on := 7, ground := Ground.data }, { on := 5, ground := Ground.chain }], guard := none }) rfl (fun K hK => ?_) AllReadyH.nil)
        refine step_append_lies _ (by rfl) _ _ _ (by rfl) w4.heap.size 3 ig _ 1 8 Try.underlying22 hig hz0 hz1 hz2 rfl (by omega) _ 0 [] (by rfl) hR5v78 ⟨v77.heap.size, 0, none⟩ 1 1 [.int .i64 t] (by rfl) (by rfl) (World.news_of_block (cs := #[.int .i64 t]) (t := 3) (fr := (0, 0)) bCv78) (by simp [Value.oneCell']) (by omega) (by simp only [maxLen]; omega) (by omega) (hbv78.size) (v78.heap.size) rfl ?_
        intro g8 cap8 v79 hR8v79 hgrow hat hlt
        have hbv79 := hbv78.grown hgrow (hbv78.size) (fun k e => ((hR5v78).lt k e).1)
        have hsv79 := Lib.hid (hgrow.size)
        have hg8 := Lib.hid (show g8 = v0.heap.size ∨ g8 = v78.heap.size from by rcases hat with q | q; (exact .inl (Option.some.inj q).symm); exact .inr q)
        have hl8 := Lib.hid (hR8v79.lt _ rfl).2
        have bDv79 := (bDv78).grown hgrow (fun hq => absurd (show v68.heap.size = v0.heap.size from Option.some.inj hq) (by have a0 := hsv0.out; have a1 := hsv68.out; have a2 := hsv77.out; have a3 := hsv78.out; omega))
        clear hgrow hat
        refine hK.out _ _ ?_ (fun hHeld => ?_)
        · exact HBX.out _ (hb4.trans (hbv79.mono hb4.size))
        clear hK K
        try simp only [Act.put, List.setIfInBounds_toArray, List.set_cons_zero, List.set_cons_succ]
        try simp only [Nat.zero_add]
        refine wpAnyH_take (i := 11) (oi := { dst := some 41, op := Op.build 25 #[(0, Operand.tmp 31), (1, Operand.tmp 38), (2, Operand.tmp 40)], type := 25, pos := "law.go:95", after := #[{ on := 1, ground := Ground.data }, { on := 8, ground := Ground.data }, { on := 10, ground := Ground.data }], guard := none }) (v := ?_) rfl (by kernel_rfl) (by kernel_rfl) (by kernel_rfl) (fun _ _ _ h => h) (Or.inl ⟨by rfl, ?_⟩) (by assumption) ?_
        rotate_left
        · (intro w hSw; (try dsimp only at hSw); go_simp; (try with_reducible rfl))
        try simp only [Act.put, List.setIfInBounds_toArray, List.set_cons_zero, List.set_cons_succ]
        refine wpAnyH_ready (rs := [13]) (by kernel_rfl) (by simp) ?_
        refine (AllReadyH.cons (o := { dst := none, op := Op.store 25 (Operand.tmp 7) (Operand.tmp 41), type := 0, pos := "law.go:95", after := #[{ on := 12, ground := Ground.data }, { on := 11, ground := Ground.data }, { on := 8, ground := Ground.chain }, { on := 0, ground := Ground.phase }, { on := 1, ground := Ground.phase }, { on := 2, ground := Ground.phase }, { on := 3, ground := Ground.phase }, { on := 4, ground := Ground.phase }, { on := 5, ground := Ground.phase }, { on := 6, ground := Ground.phase }, { on := 7, ground := Ground.phase }, { on := 8, ground := Ground.phase }, { on := 9, ground := Ground.phase }, { on := 10, ground := Ground.phase }, { on := 11, ground := Ground.phase }, { on := 12, ground := Ground.phase }], guard := none }) rfl (fun K hK => ?_) AllReadyH.nil)
        obtain ⟨z0, z1, z2⟩ := (bDv79).three
        have f0 := (bDv79).frozen 0
        have f1 := (bDv79).frozen 1
        have f2 := (bDv79).frozen 2
        go_simp
        have hgD := (show w4.heap.size ≤ v68.heap.size from (by have a0 := hsv0.out; have a1 := hsv68.out; have a2 := hsv77.out; have a3 := hsv78.out; have a4 := hsv79.out; have a5 := hg8.out; have a6 := hl8.out; omega))
        have bN : Blk (((v79.setCell ⟨v68.heap.size, 0, none⟩ (.int .i64 ps)).setCell ⟨v68.heap.size, 1, none⟩ (.slice (some ⟨g8, 0, none⟩) 1 cap8)).setCell ⟨v68.heap.size, 2, none⟩ (.slice B xs.length ce)) v68.heap.size 25 #[.int .i64 ps, .slice (some ⟨g8, 0, none⟩) 1 cap8, .slice B xs.length ce] := (((bDv79).set 0 (.int .i64 ps)).set 1 (.slice (some ⟨g8, 0, none⟩) 1 cap8)).set 2 (.slice B xs.length ce)
        have hbN := ((hbv79.setCell (p := ⟨v68.heap.size, 0, none⟩) hgD (.int .i64 ps)).setCell (p := ⟨v68.heap.size, 1, none⟩) hgD (.slice (some ⟨g8, 0, none⟩) 1 cap8)).setCell (p := ⟨v68.heap.size, 2, none⟩) hgD (.slice B xs.length ce)
        have hIN : IRow (((v79.setCell ⟨v68.heap.size, 0, none⟩ (.int .i64 ps)).setCell ⟨v68.heap.size, 1, none⟩ (.slice (some ⟨g8, 0, none⟩) 1 cap8)).setCell ⟨v68.heap.size, 2, none⟩ (.slice B xs.length ce)) (((v79.setCell ⟨v68.heap.size, 0, none⟩ (.int .i64 ps)).setCell ⟨v68.heap.size, 1, none⟩ (.slice (some ⟨g8, 0, none⟩) 1 cap8)).setCell ⟨v68.heap.size, 2, none⟩ (.slice B xs.length ce)).heap.size (some ⟨g8, 0, none⟩) ([] ++ [t]) := row_far3 (row_ints hR8v79 ) (show g8 ≠ v68.heap.size from (by have a0 := hsv0.out; have a1 := hsv68.out; have a2 := hsv77.out; have a3 := hsv78.out; have a4 := hsv79.out; have a5 := hg8.out; have a6 := hl8.out; omega)) _ _ _
        have hcp := own_cap2 hR8v79
        clear z0 z1 z2 f0 f1 f2
        refine hK.out _ _ ?_ (fun hHeld => ?_)
        · exact HBX.out _ (hb4.trans (hbN.mono hb4.size))
        clear hK K
        try simp only [Act.put, List.setIfInBounds_toArray, List.set_cons_zero, List.set_cons_succ]
        refine wpAnyH_done (by kernel_rfl) ?_ _
        refine NoPanic.normal ?_
        have hbF := (hb4.trans (hbN.mono hb4.size))
        have hPN := (HP.out.at hbF).ok q1 q2
        obtain ⟨b0, b1, b2⟩ := HBX.out _ hbF
        obtain ⟨d0, d1, d2⟩ := bN.three
        go_wp2_with (first
          | (go_at_call 12; refine (HCN.out _ _ _ hPN hIN hcp).mono ?_; rintro e w10 ⟨rfl, hb⟩; have hP10 := hPN.at hb; have hI10 := hIN.at hb; have hb10 := hbF.trans (hb.mono hbF.size); have bN10 := bN.below hb bN.lt; obtain ⟨d0, d1, d2⟩ := bN10.three)
          | (go_at_call 19; refine (HON.out _ _ _ hP10 hI10 hcp).mono ?_; rintro e w11 ⟨rfl, hb⟩; have hb11 := hb10.trans (hb.mono hb10.size)))
        go_ret
        exact ⟨ret_true (by simp), hB0.trans (hb11.mono hB0.size)⟩
    · go_simp
      have hbv81 := hbv68.alloc (hbv68.size) (.cells #[.int .i64 t] 3)
      have bCv81 : Blk (v68.alloc (.cells #[.int .i64 t] 3)) v68.heap.size 3 #[.int .i64 t] := Blk.new v68 _ _
      have hsv81 : (v68.alloc (.cells #[.int .i64 t] 3)).heap.size = v68.heap.size + 1 := World.size_alloc _ _
      have bEv81 := (bEv68).alloc (.cells #[.int .i64 t] 3)
      refine hK.out _ _ ?_ (fun hHeld => ?_)
      · exact HBX.out _ (hb4.trans (hbv81.mono hb4.size))
      clear hK K
      try simp only [Act.put, List.setIfInBounds_toArray, List.set_cons_zero, List.set_cons_succ]
      obtain ⟨v81, ev81⟩ : ∃ x, v68.alloc (.cells #[.int .i64 t] 3) = x := ⟨_, rfl⟩
      rw [ev81] at hbv81 bCv81 hsv81 bEv81 hHeld ⊢
      clear ev81
      replace hsv81 := Lib.hid hsv81
      refine wpAnyH_ready (rs := [5, 12]) (by kernel_rfl) (by simp) ?_
      refine (AllReadyH.cons (o := { dst := some 35, op := Op.call { callee := Callee.builtin Builtin.append, args := #[Operand.tmp 32, Operand.tmp 34], argTypes := #[22, 22] }, type := 22, pos := "law.go:95", after := #[{ on := 2, ground := Ground.data }, { on := 4, ground := Ground.data }], guard := none }) rfl (fun K hK => ?_) (AllReadyH.cons (o := { dst := some 7, op := Op.alloc 25, type := 0, pos := "law.go:95", after := #[], guard := none }) rfl (fun K hK => ?_) AllReadyH.nil))
      · refine step_append_nothing rfl _ _ rfl v0.heap.size rfl A c rfl ?_
        refine hK.out _ _ ?_ (fun hHeld => ?_)
        · exact HBX.out _ (hb4.trans (hbv81.mono hb4.size))
        clear hK K
        try simp only [Act.put, List.setIfInBounds_toArray, List.set_cons_zero, List.set_cons_succ]
        have hR5v82 := row0 (base := w4.heap.size) bEv81 (show w4.heap.size ≤ v0.heap.size from (by have a0 := hsv0.out; have a1 := hsv68.out; have a2 := hsv81.out; omega))
        refine wpAnyH_ready (rs := [8, 12]) (by kernel_rfl) (by simp) ?_
        refine (AllReadyH.cons (o := { dst := some 38, op := Op.call { callee := Callee.builtin Builtin.append, args := #[Operand.tmp 35, Operand.tmp 37], argTypes := #[22, 22] }, type := 22, pos := "law.go:95", after := #[{ on := 5, ground := Ground.data }, { on := 7, ground := Ground.data }, { on := 5, ground := Ground.chain }], guard := none }) rfl (fun K hK => ?_) (AllReadyH.cons (o := { dst := some 7, op := Op.alloc 25, type := 0, pos := "law.go:95", after := #[], guard := none }) rfl (fun K hK => ?_) AllReadyH.nil))
        · refine step_append_lies _ (by rfl) _ _ _ (by rfl) w4.heap.size 3 ig _ 1 8 Try.underlying22 hig hz0 hz1 hz2 rfl (by omega) _ 0 [] (by rfl) hR5v82 ⟨v68.heap.size, 0, none⟩ 1 1 [.int .i64 t] (by rfl) (by rfl) (World.news_of_block (cs := #[.int .i64 t]) (t := 3) (fr := (0, 0)) bCv81) (by simp [Value.oneCell']) (by omega) (by simp only [maxLen]; omega) (by omega) (hbv81.size) (v81.heap.size) rfl ?_
          intro g8 cap8 v83 hR8v83 hgrow hat hlt
          have hbv83 := hbv81.grown hgrow (hbv81.size) (fun k e => ((hR5v82).lt k e).1)
          have hsv83 := Lib.hid (hgrow.size)
          have hg8 := Lib.hid (show g8 = v0.heap.size ∨ g8 = v81.heap.size from by rcases hat with q | q; (exact .inl (Option.some.inj q).symm); exact .inr q)
          have hl8 := Lib.hid (hR8v83.lt _ rfl).2
          clear hgrow hat
          refine hK.out _ _ ?_ (fun hHeld => ?_)
          · exact HBX.out _ (hb4.trans (hbv83.mono hb4.size))
          clear hK K
          try simp only [Act.put, List.setIfInBounds_toArray, List.set_cons_zero, List.set_cons_succ]
          try simp only [Nat.zero_add]
          refine wpAnyH_take (i := 11) (oi := { dst := some 41, op := Op.build 25 #[(0, Operand.tmp 31), (1, Operand.tmp 38), (2, Operand.tmp 40)], type := 25, pos := "law.go:95", after := #[{ on := 1, ground := Ground.data }, { on := 8, ground := Ground.data }, { on := 10, ground := Ground.data }], guard := none }) (v := ?_) rfl (by kernel_rfl) (by kernel_rfl) (by kernel_rfl) (fun _ _ _ h => h) (Or.inl ⟨by rfl, ?_⟩) (by assumption) ?_
          rotate_left
          · (intro w hSw; (try dsimp only at hSw); go_simp; (try with_reducible rfl))
          try simp only [Act.put, List.setIfInBounds_toArray, List.set_cons_zero, List.set_cons_succ]
          refine wpAnyH_ready (rs := [12]) (by kernel_rfl) (by simp) ?_
          refine (AllReadyH.cons (o := { dst := some 7, op := Op.alloc 25, type := 0, pos := "law.go:95", after := #[], guard := none }) rfl (fun K hK => ?_) AllReadyH.nil)
          go_simp
          have hbv84 := hbv83.alloc (hbv83.size) (.cells #[.int .i64 0, .slice none 0 0, .slice none 0 0] 25)
          have bDv84 : Blk (v83.alloc (.cells #[.int .i64 0, .slice none 0 0, .slice none 0 0] 25)) v83.heap.size 25 #[.int .i64 0, .slice none 0 0, .slice none 0 0] := Blk.new v83 _ _
          have hsv84 : (v83.alloc (.cells #[.int .i64 0, .slice none 0 0, .slice none 0 0] 25)).heap.size = v83.heap.size + 1 := World.size_alloc _ _
          have hR8v84 := (hR8v83).alloc (.cells #[.int .i64 0, .slice none 0 0, .slice none 0 0] 25)
          refine hK.out _ _ ?_ (fun hHeld => ?_)
          · exact HBX.out _ (hb4.trans (hbv84.mono hb4.size))
          clear hK K
          try simp only [Act.put, List.setIfInBounds_toArray, List.set_cons_zero, List.set_cons_succ]
          obtain ⟨v84, ev84⟩ : ∃ x, v83.alloc (.cells #[.int .i64 0, .slice none 0 0, .slice none 0 0] 25) = x := ⟨_, rfl⟩
          rw [ev84] at hbv84 bDv84 hsv84 hR8v84 hHeld ⊢
          clear ev84
          replace hsv84 := Lib.hid hsv84
          refine wpAnyH_ready (rs := [13]) (by kernel_rfl) (by simp) ?_
          refine (AllReadyH.cons (o := { dst := none, op := Op.store 25 (Operand.tmp 7) (Operand.tmp 41), type := 0, pos := "law.go:95", after := #[{ on := 12, ground := Ground.data }, { on := 11, ground := Ground.data }, { on := 8, ground := Ground.chain }, { on := 0, ground := Ground.phase }, { on := 1, ground := Ground.phase }, { on := 2, ground := Ground.phase }, { on := 3, ground := Ground.phase }, { on := 4, ground := Ground.phase }, { on := 5, ground := Ground.phase }, { on := 6, ground := Ground.phase }, { on := 7, ground := Ground.phase }, { on := 8, ground := Ground.phase }, { on := 9, ground := Ground.phase }, { on := 10, ground := Ground.phase }, { on := 11, ground := Ground.phase }, { on := 12, ground := Ground.phase }], guard := none }) rfl (fun K hK => ?_) AllReadyH.nil)
          obtain ⟨z0, z1, z2⟩ := (bDv84).three
          have f0 := (bDv84).frozen 0
          have f1 := (bDv84).frozen 1
          have f2 := (bDv84).frozen 2
          go_simp
          have hgD := (show w4.heap.size ≤ v83.heap.size from (by have a0 := hsv0.out; have a1 := hsv68.out; have a2 := hsv81.out; have a3 := hsv83.out; have a4 := hg8.out; have a5 := hl8.out; have a6 := hsv84.out; omega))
          have bN : Blk (((v84.setCell ⟨v83.heap.size, 0, none⟩ (.int .i64 ps)).setCell ⟨v83.heap.size, 1, none⟩ (.slice (some ⟨g8, 0, none⟩) 1 cap8)).setCell ⟨v83.heap.size, 2, none⟩ (.slice B xs.length ce)) v83.heap.size 25 #[.int .i64 ps, .slice (some ⟨g8, 0, none⟩) 1 cap8, .slice B xs.length ce] := (((bDv84).set 0 (.int .i64 ps)).set 1 (.slice (some ⟨g8, 0, none⟩) 1 cap8)).set 2 (.slice B xs.length ce)
          have hbN := ((hbv84.setCell (p := ⟨v83.heap.size, 0, none⟩) hgD (.int .i64 ps)).setCell (p := ⟨v83.heap.size, 1, none⟩) hgD (.slice (some ⟨g8, 0, none⟩) 1 cap8)).setCell (p := ⟨v83.heap.size, 2, none⟩) hgD (.slice B xs.length ce)
          have hIN : IRow (((v84.setCell ⟨v83.heap.size, 0, none⟩ (.int .i64 ps)).setCell ⟨v83.heap.size, 1, none⟩ (.slice (some ⟨g8, 0, none⟩) 1 cap8)).setCell ⟨v83.heap.size, 2, none⟩ (.slice B xs.length ce)) (((v84.setCell ⟨v83.heap.size, 0, none⟩ (.int .i64 ps)).setCell ⟨v83.heap.size, 1, none⟩ (.slice (some ⟨g8, 0, none⟩) 1 cap8)).setCell ⟨v83.heap.size, 2, none⟩ (.slice B xs.length ce)).heap.size (some ⟨g8, 0, none⟩) ([] ++ [t]) := row_far3 (row_ints hR8v84 ) (show g8 ≠ v83.heap.size from (by have a0 := hsv0.out; have a1 := hsv68.out; have a2 := hsv81.out; have a3 := hsv83.out; have a4 := hg8.out; have a5 := hl8.out; have a6 := hsv84.out; omega)) _ _ _
          have hcp := own_cap2 hR8v84
          clear z0 z1 z2 f0 f1 f2
          refine hK.out _ _ ?_ (fun hHeld => ?_)
          · exact HBX.out _ (hb4.trans (hbN.mono hb4.size))
          clear hK K
          try simp only [Act.put, List.setIfInBounds_toArray, List.set_cons_zero, List.set_cons_succ]
          refine wpAnyH_done (by kernel_rfl) ?_ _
          refine NoPanic.normal ?_
          have hbF := (hb4.trans (hbN.mono hb4.size))
          have hPN := (HP.out.at hbF).ok q1 q2
          obtain ⟨b0, b1, b2⟩ := HBX.out _ hbF
          obtain ⟨d0, d1, d2⟩ := bN.three
          go_wp2_with (first
            | (go_at_call 12; refine (HCN.out _ _ _ hPN hIN hcp).mono ?_; rintro e w10 ⟨rfl, hb⟩; have hP10 := hPN.at hb; have hI10 := hIN.at hb; have hb10 := hbF.trans (hb.mono hbF.size); have bN10 := bN.below hb bN.lt; obtain ⟨d0, d1, d2⟩ := bN10.three)
            | (go_at_call 19; refine (HON.out _ _ _ hP10 hI10 hcp).mono ?_; rintro e w11 ⟨rfl, hb⟩; have hb11 := hb10.trans (hb.mono hb10.size)))
          go_ret
          exact ⟨ret_true (by simp), hB0.trans (hb11.mono hB0.size)⟩
        · go_simp
          have hbv86 := hbv81.alloc (hbv81.size) (.cells #[.int .i64 0, .slice none 0 0, .slice none 0 0] 25)
          have bDv86 : Blk (v81.alloc (.cells #[.int .i64 0, .slice none 0 0, .slice none 0 0] 25)) v81.heap.size 25 #[.int .i64 0, .slice none 0 0, .slice none 0 0] := Blk.new v81 _ _
          have hsv86 : (v81.alloc (.cells #[.int .i64 0, .slice none 0 0, .slice none 0 0] 25)).heap.size = v81.heap.size + 1 := World.size_alloc _ _
          have bCv86 := (bCv81).alloc (.cells #[.int .i64 0, .slice none 0 0, .slice none 0 0] 25)
          have hR5v86 := (hR5v82).alloc (.cells #[.int .i64 0, .slice none 0 0, .slice none 0 0] 25)
          refine hK.out _ _ ?_ (fun hHeld => ?_)
          · exact HBX.out _ (hb4.trans (hbv86.mono hb4.size))
          clear hK K
          try simp only [Act.put, List.setIfInBounds_toArray, List.set_cons_zero, List.set_cons_succ]
          obtain ⟨v86, ev86⟩ : ∃ x, v81.alloc (.cells #[.int .i64 0, .slice none 0 0, .slice none 0 0] 25) = x := ⟨_, rfl⟩
          rw [ev86] at hbv86 bDv86 hsv86 bCv86 hR5v86 hHeld ⊢
          clear ev86
          replace hsv86 := Lib.hid hsv86
          refine wpAnyH_ready (rs := [8]) (by kernel_rfl) (by simp) ?_
          refine (AllReadyH.cons (o := { dst := some 38, op := Op.call { callee := Callee.builtin Builtin.append, args := #[Operand.tmp 35, Operand.tmp 37], argTypes := #[22, 22] }, type := 22, pos := "law.go:95", after := #[{ on := 5, ground := Ground.data }, { on := 7, ground := Ground.data }, { on := 5, ground := Ground.chain }], guard := none }) rfl (fun K hK => ?_) AllReadyH.nil)
          refine step_append_lies _ (by rfl) _ _ _ (by rfl) w4.heap.size 3 ig _ 1 8 Try.underlying22 hig hz0 hz1 hz2 rfl (by omega) _ 0 [] (by rfl) hR5v86 ⟨v68.heap.size, 0, none⟩ 1 1 [.int .i64 t] (by rfl) (by rfl) (World.news_of_block (cs := #[.int .i64 t]) (t := 3) (fr := (0, 0)) bCv86) (by simp [Value.oneCell']) (by omega) (by simp only [maxLen]; omega) (by omega) (hbv86.size) (v86.heap.size) rfl ?_
          intro g8 cap8 v87 hR8v87 hgrow hat hlt
          have hbv87 := hbv86.grown hgrow (hbv86.size) (fun k e => ((hR5v86).lt k e).1)
          have hsv87 := Lib.hid (hgrow.size)
          have hg8 := Lib.hid (show g8 = v0.heap.size ∨ g8 = v86.heap.size from by rcases hat with q | q; (exact .inl (Option.some.inj q).symm); exact .inr q)
          have hl8 := Lib.hid (hR8v87.lt _ rfl).2
          have bDv87 := (bDv86).grown hgrow (fun hq => absurd (show v81.heap.size = v0.heap.size from Option.some.inj hq) (by have a0 := hsv0.out; have a1 := hsv68.out; have a2 := hsv81.out; have a3 := hsv86.out; omega))
          clear hgrow hat
          refine hK.out _ _ ?_ (fun hHeld => ?_)
          · exact HBX.out _ (hb4.trans (hbv87.mono hb4.size))
          clear hK K
          try simp only [Act.put, List.setIfInBounds_toArray, List.set_cons_zero, List.set_cons_succ]
          try simp only [Nat.zero_add]
          refine wpAnyH_take (i := 11) (oi := { dst := some 41, op := Op.build 25 #[(0, Operand.tmp 31), (1, Operand.tmp 38), (2, Operand.tmp 40)], type := 25, pos := "law.go:95", after := #[{ on := 1, ground := Ground.data }, { on := 8, ground := Ground.data }, { on := 10, ground := Ground.data }], guard := none }) (v := ?_) rfl (by kernel_rfl) (by kernel_rfl) (by kernel_rfl) (fun _ _ _ h => h) (Or.inl ⟨by rfl, ?_⟩) (by assumption) ?_
          rotate_left
          · (intro w hSw; (try dsimp only at hSw); go_simp; (try with_reducible rfl))
          try simp only [Act.put, List.setIfInBounds_toArray, List.set_cons_zero, List.set_cons_succ]
          refine wpAnyH_ready (rs := [13]) (by kernel_rfl) (by simp) ?_
          refine (AllReadyH.cons (o := { dst := none, op := Op.store 25 (Operand.tmp 7) (Operand.tmp 41), type := 0, pos := "law.go:95", after := #[{ on := 12, ground := Ground.data }, { on := 11, ground := Ground.data }, { on := 8, ground := Ground.chain }, { on := 0, ground := Ground.phase }, { on := 1, ground := Ground.phase }, { on := 2, ground := Ground.phase }, { on := 3, ground := Ground.phase }, { on := 4, ground := Ground.phase }, { on := 5, ground := Ground.phase }, { on := 6, ground := Ground.phase }, { on := 7, ground := Ground.phase }, { on := 8, ground := Ground.phase }, { on := 9, ground := Ground.phase }, { on := 10, ground := Ground.phase }, { on := 11, ground := Ground.phase }, { on := 12, ground := Ground.phase }], guard := none }) rfl (fun K hK => ?_) AllReadyH.nil)
          obtain ⟨z0, z1, z2⟩ := (bDv87).three
          have f0 := (bDv87).frozen 0
          have f1 := (bDv87).frozen 1
          have f2 := (bDv87).frozen 2
          go_simp
          have hgD := (show w4.heap.size ≤ v81.heap.size from (by have a0 := hsv0.out; have a1 := hsv68.out; have a2 := hsv81.out; have a3 := hsv86.out; have a4 := hsv87.out; have a5 := hg8.out; have a6 := hl8.out; omega))
          have bN : Blk (((v87.setCell ⟨v81.heap.size, 0, none⟩ (.int .i64 ps)).setCell ⟨v81.heap.size, 1, none⟩ (.slice (some ⟨g8, 0, none⟩) 1 cap8)).setCell ⟨v81.heap.size, 2, none⟩ (.slice B xs.length ce)) v81.heap.size 25 #[.int .i64 ps, .slice (some ⟨g8, 0, none⟩) 1 cap8, .slice B xs.length ce] := (((bDv87).set 0 (.int .i64 ps)).set 1 (.slice (some ⟨g8, 0, none⟩) 1 cap8)).set 2 (.slice B xs.length ce)
          have hbN := ((hbv87.setCell (p := ⟨v81.heap.size, 0, none⟩) hgD (.int .i64 ps)).setCell (p := ⟨v81.heap.size, 1, none⟩) hgD (.slice (some ⟨g8, 0, none⟩) 1 cap8)).setCell (p := ⟨v81.heap.size, 2, none⟩) hgD (.slice B xs.length ce)
          have hIN : IRow (((v87.setCell ⟨v81.heap.size, 0, none⟩ (.int .i64 ps)).setCell ⟨v81.heap.size, 1, none⟩ (.slice (some ⟨g8, 0, none⟩) 1 cap8)).setCell ⟨v81.heap.size, 2, none⟩ (.slice B xs.length ce)) (((v87.setCell ⟨v81.heap.size, 0, none⟩ (.int .i64 ps)).setCell ⟨v81.heap.size, 1, none⟩ (.slice (some ⟨g8, 0, none⟩) 1 cap8)).setCell ⟨v81.heap.size, 2, none⟩ (.slice B xs.length ce)).heap.size (some ⟨g8, 0, none⟩) ([] ++ [t]) := row_far3 (row_ints hR8v87 ) (show g8 ≠ v81.heap.size from (by have a0 := hsv0.out; have a1 := hsv68.out; have a2 := hsv81.out; have a3 := hsv86.out; have a4 := hsv87.out; have a5 := hg8.out; have a6 := hl8.out; omega)) _ _ _
          have hcp := own_cap2 hR8v87
          clear z0 z1 z2 f0 f1 f2
          refine hK.out _ _ ?_ (fun hHeld => ?_)
          · exact HBX.out _ (hb4.trans (hbN.mono hb4.size))
          clear hK K
          try simp only [Act.put, List.setIfInBounds_toArray, List.set_cons_zero, List.set_cons_succ]
          refine wpAnyH_done (by kernel_rfl) ?_ _
          refine NoPanic.normal ?_
          have hbF := (hb4.trans (hbN.mono hb4.size))
          have hPN := (HP.out.at hbF).ok q1 q2
          obtain ⟨b0, b1, b2⟩ := HBX.out _ hbF
          obtain ⟨d0, d1, d2⟩ := bN.three
          go_wp2_with (first
            | (go_at_call 12; refine (HCN.out _ _ _ hPN hIN hcp).mono ?_; rintro e w10 ⟨rfl, hb⟩; have hP10 := hPN.at hb; have hI10 := hIN.at hb; have hb10 := hbF.trans (hb.mono hbF.size); have bN10 := bN.below hb bN.lt; obtain ⟨d0, d1, d2⟩ := bN10.three)
            | (go_at_call 19; refine (HON.out _ _ _ hP10 hI10 hcp).mono ?_; rintro e w11 ⟨rfl, hb⟩; have hb11 := hb10.trans (hb.mono hb10.size)))
          go_ret
          exact ⟨ret_true (by simp), hB0.trans (hb11.mono hB0.size)⟩
      · go_simp
        have hbv89 := hbv81.alloc (hbv81.size) (.cells #[.int .i64 0, .slice none 0 0, .slice none 0 0] 25)
        have bDv89 : Blk (v81.alloc (.cells #[.int .i64 0, .slice none 0 0, .slice none 0 0] 25)) v81.heap.size 25 #[.int .i64 0, .slice none 0 0, .slice none 0 0] := Blk.new v81 _ _
        have hsv89 : (v81.alloc (.cells #[.int .i64 0, .slice none 0 0, .slice none 0 0] 25)).heap.size = v81.heap.size + 1 := World.size_alloc _ _
        have bEv89 := (bEv81).alloc (.cells #[.int .i64 0, .slice none 0 0, .slice none 0 0] 25)
        have bCv89 := (bCv81).alloc (.cells #[.int .i64 0, .slice none 0 0, .slice none 0 0] 25)
        refine hK.out _ _ ?_ (fun hHeld => ?_)
        · exact HBX.out _ (hb4.trans (hbv89.mono hb4.size))
        clear hK K
        try simp only [Act.put, List.setIfInBounds_toArray, List.set_cons_zero, List.set_cons_succ]
        obtain ⟨v89, ev89⟩ : ∃ x, v81.alloc (.cells #[.int .i64 0, .slice none 0 0, .slice none 0 0] 25) = x := ⟨_, rfl⟩
        rw [ev89] at hbv89 bDv89 hsv89 bEv89 bCv89 hHeld ⊢
        clear ev89
        replace hsv89 := Lib.hid hsv89
        refine wpAnyH_ready (rs := [5]) (by kernel_rfl) (by simp) ?_
        refine (AllReadyH.cons (o := { dst := some 35, op := Op.call { callee := Callee.builtin Builtin.append, args := #[Operand.tmp 32, Operand.tmp 34], argTypes := #[22, 22] }, type := 22, pos := "law.go:95", after := #[{ on := 2, ground := Ground.data }, { on := 4, ground := Ground.data }], guard := none }) rfl (fun K hK => ?_) AllReadyH.nil)
        refine step_append_nothing rfl _ _ rfl v0.heap.size rfl A c rfl ?_
        refine hK.out _ _ ?_ (fun hHeld => ?_)
        · exact HBX.out _ (hb4.trans (hbv89.mono hb4.size))
        clear hK K
        try simp only [Act.put, List.setIfInBounds_toArray, List.set_cons_zero, List.set_cons_succ]
        have hR5v90 := row0 (base := w4.heap.size) bEv89 (show w4.heap.size ≤ v0.heap.size from (by have a0 := hsv0.out; have a1 := hsv68.out; have a2 := hsv81.out; have a3 := hsv89.out; omega))
        refine wpAnyH_ready (rs := [8]) (by kernel_rfl) (by simp) ?_
        refine (AllReadyH.cons (o := { dst := some 38, op := Op.call { callee := Callee.builtin Builtin.append, args := #[Operand.tmp 35, Operand.tmp 37], argTypes := #[22, 22] }, type := 22, pos := "law.go:95", after := #[{ on := 5, ground := Ground.data }, { on := 7, ground := Ground.data }, { on := 5, ground := Ground.chain }], guard := none }) rfl (fun K hK => ?_) AllReadyH.nil)
        refine step_append_lies _ (by rfl) _ _ _ (by rfl) w4.heap.size 3 ig _ 1 8 Try.underlying22 hig hz0 hz1 hz2 rfl (by omega) _ 0 [] (by rfl) hR5v90 ⟨v68.heap.size, 0, none⟩ 1 1 [.int .i64 t] (by rfl) (by rfl) (World.news_of_block (cs := #[.int .i64 t]) (t := 3) (fr := (0, 0)) bCv89) (by simp [Value.oneCell']) (by omega) (by simp only [maxLen]; omega) (by omega) (hbv89.size) (v89.heap.size) rfl ?_
        intro g8 cap8 v91 hR8v91 hgrow hat hlt
        have hbv91 := hbv89.grown hgrow (hbv89.size) (fun k e => ((hR5v90).lt k e).1)
        have hsv91 := Lib.hid (hgrow.size)
        have hg8 := Lib.hid (show g8 = v0.heap.size ∨ g8 = v89.heap.size from by rcases hat with q | q; (exact .inl (Option.some.inj q).symm); exact .inr q)
        have hl8 := Lib.hid (hR8v91.lt _ rfl).2
        have bDv91 := (bDv89).grown hgrow (fun hq => absurd (show v81.heap.size = v0.heap.size from Option.some.inj hq) (by have a0 := hsv0.out; have a1 := hsv68.out; have a2 := hsv81.out; have a3 := hsv89.out; omega))
        clear hgrow hat
        refine hK.out _ _ ?_ (fun hHeld => ?_)
        · exact HBX.out _ (hb4.trans (hbv91.mono hb4.size))
        clear hK K
        try simp only [Act.put, List.setIfInBounds_toArray, List.set_cons_zero, List.set_cons_succ]
        try simp only [Nat.zero_add]
        refine wpAnyH_take (i := 11) (oi := { dst := some 41, op := Op.build 25 #[(0, Operand.tmp 31), (1, Operand.tmp 38), (2, Operand.tmp 40)], type := 25, pos := "law.go:95", after := #[{ on := 1, ground := Ground.data }, { on := 8, ground := Ground.data }, { on := 10, ground := Ground.data }], guard := none }) (v := ?_) rfl (by kernel_rfl) (by kernel_rfl) (by kernel_rfl) (fun _ _ _ h => h) (Or.inl ⟨by rfl, ?_⟩) (by assumption) ?_
        rotate_left
        · (intro w hSw; (try dsimp only at hSw); go_simp; (try with_reducible rfl))
        try simp only [Act.put, List.setIfInBounds_toArray, List.set_cons_zero, List.set_cons_succ]
        refine wpAnyH_ready (rs := [13]) (by kernel_rfl) (by simp) ?_
        refine (AllReadyH.cons (o := { dst := none, op := Op.store 25 (Operand.tmp 7) (Operand.tmp 41), type := 0, pos := "law.go:95", after := #[{ on := 12, ground := Ground.data }, { on := 11, ground := Ground.data }, { on := 8, ground := Ground.chain }, { on := 0, ground := Ground.phase }, { on := 1, ground := Ground.phase }, { on := 2, ground := Ground.phase }, { on := 3, ground := Ground.phase }, { on := 4, ground := Ground.phase }, { on := 5, ground := Ground.phase }, { on := 6, ground := Ground.phase }, { on := 7, ground := Ground.phase }, { on := 8, ground := Ground.phase }, { on := 9, ground := Ground.phase }, { on := 10, ground := Ground.phase }, { on := 11, ground := Ground.phase }, { on := 12, ground := Ground.phase }], guard := none }) rfl (fun K hK => ?_) AllReadyH.nil)
        obtain ⟨z0, z1, z2⟩ := (bDv91).three
        have f0 := (bDv91).frozen 0
        have f1 := (bDv91).frozen 1
        have f2 := (bDv91).frozen 2
        go_simp
        have hgD := (show w4.heap.size ≤ v81.heap.size from (by have a0 := hsv0.out; have a1 := hsv68.out; have a2 := hsv81.out; have a3 := hsv89.out; have a4 := hsv91.out; have a5 := hg8.out; have a6 := hl8.out; omega))
        have bN : Blk (((v91.setCell ⟨v81.heap.size, 0, none⟩ (.int .i64 ps)).setCell ⟨v81.heap.size, 1, none⟩ (.slice (some ⟨g8, 0, none⟩) 1 cap8)).setCell ⟨v81.heap.size, 2, none⟩ (.slice B xs.length ce)) v81.heap.size 25 #[.int .i64 ps, .slice (some ⟨g8, 0, none⟩) 1 cap8, .slice B xs.length ce] := (((bDv91).set 0 (.int .i64 ps)).set 1 (.slice (some ⟨g8, 0, none⟩) 1 cap8)).set 2 (.slice B xs.length ce)
        have hbN := ((hbv91.setCell (p := ⟨v81.heap.size, 0, none⟩) hgD (.int .i64 ps)).setCell (p := ⟨v81.heap.size, 1, none⟩) hgD (.slice (some ⟨g8, 0, none⟩) 1 cap8)).setCell (p := ⟨v81.heap.size, 2, none⟩) hgD (.slice B xs.length ce)
        have hIN : IRow (((v91.setCell ⟨v81.heap.size, 0, none⟩ (.int .i64 ps)).setCell ⟨v81.heap.size, 1, none⟩ (.slice (some ⟨g8, 0, none⟩) 1 cap8)).setCell ⟨v81.heap.size, 2, none⟩ (.slice B xs.length ce)) (((v91.setCell ⟨v81.heap.size, 0, none⟩ (.int .i64 ps)).setCell ⟨v81.heap.size, 1, none⟩ (.slice (some ⟨g8, 0, none⟩) 1 cap8)).setCell ⟨v81.heap.size, 2, none⟩ (.slice B xs.length ce)).heap.size (some ⟨g8, 0, none⟩) ([] ++ [t]) := row_far3 (row_ints hR8v91 ) (show g8 ≠ v81.heap.size from (by have a0 := hsv0.out; have a1 := hsv68.out; have a2 := hsv81.out; have a3 := hsv89.out; have a4 := hsv91.out; have a5 := hg8.out; have a6 := hl8.out; omega)) _ _ _
        have hcp := own_cap2 hR8v91
        clear z0 z1 z2 f0 f1 f2
        refine hK.out _ _ ?_ (fun hHeld => ?_)
        · exact HBX.out _ (hb4.trans (hbN.mono hb4.size))
        clear hK K
        try simp only [Act.put, List.setIfInBounds_toArray, List.set_cons_zero, List.set_cons_succ]
        refine wpAnyH_done (by kernel_rfl) ?_ _
        refine NoPanic.normal ?_
        have hbF := (hb4.trans (hbN.mono hb4.size))
        have hPN := (HP.out.at hbF).ok q1 q2
        obtain ⟨b0, b1, b2⟩ := HBX.out _ hbF
        obtain ⟨d0, d1, d2⟩ := bN.three
        go_wp2_with (first
          | (go_at_call 12; refine (HCN.out _ _ _ hPN hIN hcp).mono ?_; rintro e w10 ⟨rfl, hb⟩; have hP10 := hPN.at hb; have hI10 := hIN.at hb; have hb10 := hbF.trans (hb.mono hbF.size); have bN10 := bN.below hb bN.lt; obtain ⟨d0, d1, d2⟩ := bN10.three)
          | (go_at_call 19; refine (HON.out _ _ _ hP10 hI10 hcp).mono ?_; rintro e w11 ⟨rfl, hb⟩; have hb11 := hb10.trans (hb.mono hb10.size)))
        go_ret
        exact ⟨ret_true (by simp), hB0.trans (hb11.mono hB0.size)⟩
    · go_simp
      have hbv93 := hbv68.alloc (hbv68.size) (.cells #[.int .i64 0, .slice none 0 0, .slice none 0 0] 25)
      have bDv93 : Blk (v68.alloc (.cells #[.int .i64 0, .slice none 0 0, .slice none 0 0] 25)) v68.heap.size 25 #[.int .i64 0, .slice none 0 0, .slice none 0 0] := Blk.new v68 _ _
      have hsv93 : (v68.alloc (.cells #[.int .i64 0, .slice none 0 0, .slice none 0 0] 25)).heap.size = v68.heap.size + 1 := World.size_alloc _ _
      have bEv93 := (bEv68).alloc (.cells #[.int .i64 0, .slice none 0 0, .slice none 0 0] 25)
      refine hK.out _ _ ?_ (fun hHeld => ?_)
      · exact HBX.out _ (hb4.trans (hbv93.mono hb4.size))
      clear hK K
      try simp only [Act.put, List.setIfInBounds_toArray, List.set_cons_zero, List.set_cons_succ]
      obtain ⟨v93, ev93⟩ : ∃ x, v68.alloc (.cells #[.int .i64 0, .slice none 0 0, .slice none 0 0] 25) = x := ⟨_, rfl⟩
      rw [ev93] at hbv93 bDv93 hsv93 bEv93 hHeld ⊢
      clear ev93
      replace hsv93 := Lib.hid hsv93
      refine wpAnyH_ready (rs := [5, 7]) (by kernel_rfl) (by simp) ?_
      refine (AllReadyH.cons (o := { dst := some 35, op := Op.call { callee := Callee.builtin Builtin.append, args := #[Operand.tmp 32, Operand.tmp 34], argTypes := #[22, 22] }, type := 22, pos := "law.go:95", after := #[{ on := 2, ground := Ground.data }, { on := 4, ground := Ground.data }], guard := none }) rfl (fun K hK => ?_) (AllReadyH.cons (o := { dst := some 37, op := Op.buildSlice 22 1 #[(0, Operand.tmp 36)], type := 22, pos := "law.go:95", after := #[{ on := 6, ground := Ground.data }], guard := none }) rfl (fun K hK => ?_) AllReadyH.nil))
      · refine step_append_nothing rfl _ _ rfl v0.heap.size rfl A c rfl ?_
        refine hK.out _ _ ?_ (fun hHeld => ?_)
        · exact HBX.out _ (hb4.trans (hbv93.mono hb4.size))
        clear hK K
        try simp only [Act.put, List.setIfInBounds_toArray, List.set_cons_zero, List.set_cons_succ]
        have hR5v94 := row0 (base := w4.heap.size) bEv93 (show w4.heap.size ≤ v0.heap.size from (by have a0 := hsv0.out; have a1 := hsv68.out; have a2 := hsv93.out; omega))
        refine wpAnyH_ready (rs := [7]) (by kernel_rfl) (by simp) ?_
        refine (AllReadyH.cons (o := { dst := some 37, op := Op.buildSlice 22 1 #[(0, Operand.tmp 36)], type := 22, pos := "law.go:95", after := #[{ on := 6, ground := Ground.data }], guard := none }) rfl (fun K hK => ?_) AllReadyH.nil)
        go_simp
        have hbv95 := hbv93.alloc (hbv93.size) (.cells #[.int .i64 t] 3)
        have bCv95 : Blk (v93.alloc (.cells #[.int .i64 t] 3)) v93.heap.size 3 #[.int .i64 t] := Blk.new v93 _ _
        have hsv95 : (v93.alloc (.cells #[.int .i64 t] 3)).heap.size = v93.heap.size + 1 := World.size_alloc _ _
        have bDv95 := (bDv93).alloc (.cells #[.int .i64 t] 3)
        have hR5v95 := (hR5v94).alloc (.cells #[.int .i64 t] 3)
        refine hK.out _ _ ?_ (fun hHeld => ?_)
        · exact HBX.out _ (hb4.trans (hbv95.mono hb4.size))
        clear hK K
        try simp only [Act.put, List.setIfInBounds_toArray, List.set_cons_zero, List.set_cons_succ]
        obtain ⟨v95, ev95⟩ : ∃ x, v93.alloc (.cells #[.int .i64 t] 3) = x := ⟨_, rfl⟩
        rw [ev95] at hbv95 bCv95 hsv95 bDv95 hR5v95 hHeld ⊢
        clear ev95
        replace hsv95 := Lib.hid hsv95
        refine wpAnyH_ready (rs := [8]) (by kernel_rfl) (by simp) ?_
        refine (AllReadyH.cons (o := { dst := some 38, op := Op.call { callee := Callee.builtin Builtin.append, args := #[Operand.tmp 35, Operand.tmp 37], argTypes := #[22, 22] }, type := 22, pos := "law.go:95", after := #[{ on := 5, ground := Ground.data }, { on := 7, ground := Ground.data }, { on := 5, ground := Ground.chain }], guard := none }) rfl (fun K hK => ?_) AllReadyH.nil)
        refine step_append_lies _ (by rfl) _ _ _ (by rfl) w4.heap.size 3 ig _ 1 8 Try.underlying22 hig hz0 hz1 hz2 rfl (by omega) _ 0 [] (by rfl) hR5v95 ⟨v93.heap.size, 0, none⟩ 1 1 [.int .i64 t] (by rfl) (by rfl) (World.news_of_block (cs := #[.int .i64 t]) (t := 3) (fr := (0, 0)) bCv95) (by simp [Value.oneCell']) (by omega) (by simp only [maxLen]; omega) (by omega) (hbv95.size) (v95.heap.size) rfl ?_
        intro g8 cap8 v96 hR8v96 hgrow hat hlt
        have hbv96 := hbv95.grown hgrow (hbv95.size) (fun k e => ((hR5v95).lt k e).1)
        have hsv96 := Lib.hid (hgrow.size)
        have hg8 := Lib.hid (show g8 = v0.heap.size ∨ g8 = v95.heap.size from by rcases hat with q | q; (exact .inl (Option.some.inj q).symm); exact .inr q)
        have hl8 := Lib.hid (hR8v96.lt _ rfl).2
        have bDv96 := (bDv95).grown hgrow (fun hq => absurd (show v68.heap.size = v0.heap.size from Option.some.inj hq) (by have a0 := hsv0.out; have a1 := hsv68.out; have a2 := hsv93.out; have a3 := hsv95.out; omega))
        clear hgrow hat
        refine hK.out _ _ ?_ (fun hHeld => ?_)
        · exact HBX.out _ (hb4.trans (hbv96.mono hb4.size))
        clear hK K
        try simp only [Act.put, List.setIfInBounds_toArray, List.set_cons_zero, List.set_cons_succ]
        try simp only [Nat.zero_add]
        refine wpAnyH_take (i := 11) (oi := { dst := some 41, op := Op.build 25 #[(0, Operand.tmp 31), (1, Operand.tmp 38), (2, Operand.tmp 40)], type := 25, pos := "law.go:95", after := #[{ on := 1, ground := Ground.data }, { on := 8, ground := Ground.data }, { on := 10, ground := Ground.data }], guard := none }) (v := ?_) rfl (by kernel_rfl) (by kernel_rfl) (by kernel_rfl) (fun _ _ _ h => h) (Or.inl ⟨by rfl, ?_⟩) (by assumption) ?_
        rotate_left
        · (intro w hSw; (try dsimp only at hSw); go_simp; (try with_reducible rfl))
        try simp only [Act.put, List.setIfInBounds_toArray, List.set_cons_zero, List.set_cons_succ]
        refine wpAnyH_ready (rs := [13]) (by kernel_rfl) (by simp) ?_
        refine (AllReadyH.cons (o := { dst := none, op := Op.store 25 (Operand.tmp 7) (Operand.tmp 41), type := 0, pos := "law.go:95", after := #[{ on := 12, ground := Ground.data }, { on := 11, ground := Ground.data }, { on := 8, ground := Ground.chain }, { on := 0, ground := Ground.phase }, { on := 1, ground := Ground.phase }, { on := 2, ground := Ground.phase }, { on := 3, ground := Ground.phase }, { on := 4, ground := Ground.phase }, { on := 5, ground := Ground.phase }, { on := 6, ground := Ground.phase }, { on := 7, ground := Ground.phase }, { on := 8, ground := Ground.phase }, { on := 9, ground := Ground.phase }, { on := 10, ground := Ground.phase }, { on := 11, ground := Ground.phase }, { on := 12, ground := Ground.phase }], guard := none }) rfl (fun K hK => ?_) AllReadyH.nil)
        obtain ⟨z0, z1, z2⟩ := (bDv96).three
        have f0 := (bDv96).frozen 0
        have f1 := (bDv96).frozen 1
        have f2 := (bDv96).frozen 2
        go_simp
        have hgD := (show w4.heap.size ≤ v68.heap.size from (by have a0 := hsv0.out; have a1 := hsv68.out; have a2 := hsv93.out; have a3 := hsv95.out; have a4 := hsv96.out; have a5 := hg8.out; have a6 := hl8.out; omega))
        have bN : Blk (((v96.setCell ⟨v68.heap.size, 0, none⟩ (.int .i64 ps)).setCell ⟨v68.heap.size, 1, none⟩ (.slice (some ⟨g8, 0, none⟩) 1 cap8)).setCell ⟨v68.heap.size, 2, none⟩ (.slice B xs.length ce)) v68.heap.size 25 #[.int .i64 ps, .slice (some ⟨g8, 0, none⟩) 1 cap8, .slice B xs.length ce] := (((bDv96).set 0 (.int .i64 ps)).set 1 (.slice (some ⟨g8, 0, none⟩) 1 cap8)).set 2 (.slice B xs.length ce)
        have hbN := ((hbv96.setCell (p := ⟨v68.heap.size, 0, none⟩) hgD (.int .i64 ps)).setCell (p := ⟨v68.heap.size, 1, none⟩) hgD (.slice (some ⟨g8, 0, none⟩) 1 cap8)).setCell (p := ⟨v68.heap.size, 2, none⟩) hgD (.slice B xs.length ce)
        have hIN : IRow (((v96.setCell ⟨v68.heap.size, 0, none⟩ (.int .i64 ps)).setCell ⟨v68.heap.size, 1, none⟩ (.slice (some ⟨g8, 0, none⟩) 1 cap8)).setCell ⟨v68.heap.size, 2, none⟩ (.slice B xs.length ce)) (((v96.setCell ⟨v68.heap.size, 0, none⟩ (.int .i64 ps)).setCell ⟨v68.heap.size, 1, none⟩ (.slice (some ⟨g8, 0, none⟩) 1 cap8)).setCell ⟨v68.heap.size, 2, none⟩ (.slice B xs.length ce)).heap.size (some ⟨g8, 0, none⟩) ([] ++ [t]) := row_far3 (row_ints hR8v96 ) (show g8 ≠ v68.heap.size from (by have a0 := hsv0.out; have a1 := hsv68.out; have a2 := hsv93.out; have a3 := hsv95.out; have a4 := hsv96.out; have a5 := hg8.out; have a6 := hl8.out; omega)) _ _ _
        have hcp := own_cap2 hR8v96
        clear z0 z1 z2 f0 f1 f2
        refine hK.out _ _ ?_ (fun hHeld => ?_)
        · exact HBX.out _ (hb4.trans (hbN.mono hb4.size))
        clear hK K
        try simp only [Act.put, List.setIfInBounds_toArray, List.set_cons_zero, List.set_cons_succ]
        refine wpAnyH_done (by kernel_rfl) ?_ _
        refine NoPanic.normal ?_
        have hbF := (hb4.trans (hbN.mono hb4.size))
        have hPN := (HP.out.at hbF).ok q1 q2
        obtain ⟨b0, b1, b2⟩ := HBX.out _ hbF
        obtain ⟨d0, d1, d2⟩ := bN.three
        go_wp2_with (first
          | (go_at_call 12; refine (HCN.out _ _ _ hPN hIN hcp).mono ?_; rintro e w10 ⟨rfl, hb⟩; have hP10 := hPN.at hb; have hI10 := hIN.at hb; have hb10 := hbF.trans (hb.mono hbF.size); have bN10 := bN.below hb bN.lt; obtain ⟨d0, d1, d2⟩ := bN10.three)
          | (go_at_call 19; refine (HON.out _ _ _ hP10 hI10 hcp).mono ?_; rintro e w11 ⟨rfl, hb⟩; have hb11 := hb10.trans (hb.mono hb10.size)))
        go_ret
        exact ⟨ret_true (by simp), hB0.trans (hb11.mono hB0.size)⟩
      · go_simp
        have hbv98 := hbv93.alloc (hbv93.size) (.cells #[.int .i64 t] 3)
        have bCv98 : Blk (v93.alloc (.cells #[.int .i64 t] 3)) v93.heap.size 3 #[.int .i64 t] := Blk.new v93 _ _
        have hsv98 : (v93.alloc (.cells #[.int .i64 t] 3)).heap.size = v93.heap.size + 1 := World.size_alloc _ _
        have bEv98 := (bEv93).alloc (.cells #[.int .i64 t] 3)
        have bDv98 := (bDv93).alloc (.cells #[.int .i64 t] 3)
        refine hK.out _ _ ?_ (fun hHeld => ?_)
        · exact HBX.out _ (hb4.trans (hbv98.mono hb4.size))
        clear hK K
        try simp only [Act.put, List.setIfInBounds_toArray, List.set_cons_zero, List.set_cons_succ]
        obtain ⟨v98, ev98⟩ : ∃ x, v93.alloc (.cells #[.int .i64 t] 3) = x := ⟨_, rfl⟩
        rw [ev98] at hbv98 bCv98 hsv98 bEv98 bDv98 hHeld ⊢
        clear ev98
        replace hsv98 := Lib.hid hsv98
        refine wpAnyH_ready (rs := [5]) (by kernel_rfl) (by simp) ?_
        refine (AllReadyH.cons (o := { dst := some 35, op := Op.call { callee := Callee.builtin Builtin.append, args := #[Operand.tmp 32, Operand.tmp 34], argTypes := #[22, 22] }, type := 22, pos := "law.go:95", after := #[{ on := 2, ground := Ground.data }, { on := 4, ground := Ground.data }], guard := none }) rfl (fun K hK => ?_) AllReadyH.nil)
        refine step_append_nothing rfl _ _ rfl v0.heap.size rfl A c rfl ?_
        refine hK.out _ _ ?_ (fun hHeld => ?_)
        · exact HBX.out _ (hb4.trans (hbv98.mono hb4.size))
        clear hK K
        try simp only [Act.put, List.setIfInBounds_toArray, List.set_cons_zero, List.set_cons_succ]
        have hR5v99 := row0 (base := w4.heap.size) bEv98 (show w4.heap.size ≤ v0.heap.size from (by have a0 := hsv0.out; have a1 := hsv68.out; have a2 := hsv93.out; have a3 := hsv98.out; omega))
        refine wpAnyH_ready (rs := [8]) (by kernel_rfl) (by simp) ?_
        refine (AllReadyH.cons (o := { dst := some 38, op := Op.call { callee := Callee.builtin Builtin.append, args := #[Operand.tmp 35, Operand.tmp 37], argTypes := #[22, 22] }, type := 22, pos := "law.go:95", after := #[{ on := 5, ground := Ground.data }, { on := 7, ground := Ground.data }, { on := 5, ground := Ground.chain }], guard := none }) rfl (fun K hK => ?_) AllReadyH.nil)
        refine step_append_lies _ (by rfl) _ _ _ (by rfl) w4.heap.size 3 ig _ 1 8 Try.underlying22 hig hz0 hz1 hz2 rfl (by omega) _ 0 [] (by rfl) hR5v99 ⟨v93.heap.size, 0, none⟩ 1 1 [.int .i64 t] (by rfl) (by rfl) (World.news_of_block (cs := #[.int .i64 t]) (t := 3) (fr := (0, 0)) bCv98) (by simp [Value.oneCell']) (by omega) (by simp only [maxLen]; omega) (by omega) (hbv98.size) (v98.heap.size) rfl ?_
        intro g8 cap8 v100 hR8v100 hgrow hat hlt
        have hbv100 := hbv98.grown hgrow (hbv98.size) (fun k e => ((hR5v99).lt k e).1)
        have hsv100 := Lib.hid (hgrow.size)
        have hg8 := Lib.hid (show g8 = v0.heap.size ∨ g8 = v98.heap.size from by rcases hat with q | q; (exact .inl (Option.some.inj q).symm); exact .inr q)
        have hl8 := Lib.hid (hR8v100.lt _ rfl).2
        have bDv100 := (bDv98).grown hgrow (fun hq => absurd (show v68.heap.size = v0.heap.size from Option.some.inj hq) (by have a0 := hsv0.out; have a1 := hsv68.out; have a2 := hsv93.out; have a3 := hsv98.out; omega))
        clear hgrow hat
        refine hK.out _ _ ?_ (fun hHeld => ?_)
        · exact HBX.out _ (hb4.trans (hbv100.mono hb4.size))
        clear hK K
        try simp only [Act.put, List.setIfInBounds_toArray, List.set_cons_zero, List.set_cons_succ]
        try simp only [Nat.zero_add]
        refine wpAnyH_take (i := 11) (oi := { dst := some 41, op := Op.build 25 #[(0, Operand.tmp 31), (1, Operand.tmp 38), (2, Operand.tmp 40)], type := 25, pos := "law.go:95", after := #[{ on := 1, ground := Ground.data }, { on := 8, ground := Ground.data }, { on := 10, ground := Ground.data }], guard := none }) (v := ?_) rfl (by kernel_rfl) (by kernel_rfl) (by kernel_rfl) (fun _ _ _ h => h) (Or.inl ⟨by rfl, ?_⟩) (by assumption) ?_
        rotate_left
        · (intro w hSw; (try dsimp only at hSw); go_simp; (try with_reducible rfl))
        try simp only [Act.put, List.setIfInBounds_toArray, List.set_cons_zero, List.set_cons_succ]
        refine wpAnyH_ready (rs := [13]) (by kernel_rfl) (by simp) ?_
        refine (AllReadyH.cons (o := { dst := none, op := Op.store 25 (Operand.tmp 7) (Operand.tmp 41), type := 0, pos := "law.go:95", after := #[{ on := 12, ground := Ground.data }, { on := 11, ground := Ground.data }, { on := 8, ground := Ground.chain }, { on := 0, ground := Ground.phase }, { on := 1, ground := Ground.phase }, { on := 2, ground := Ground.phase }, { on := 3, ground := Ground.phase }, { on := 4, ground := Ground.phase }, { on := 5, ground := Ground.phase }, { on := 6, ground := Ground.phase }, { on := 7, ground := Ground.phase }, { on := 8, ground := Ground.phase }, { on := 9, ground := Ground.phase }, { on := 10, ground := Ground.phase }, { on := 11, ground := Ground.phase }, { on := 12, ground := Ground.phase }], guard := none }) rfl (fun K hK => ?_) AllReadyH.nil)
        obtain ⟨z0, z1, z2⟩ := (bDv100).three
        have f0 := (bDv100).frozen 0
        have f1 := (bDv100).frozen 1
        have f2 := (bDv100).frozen 2
        go_simp
        have hgD := (show w4.heap.size ≤ v68.heap.size from (by have a0 := hsv0.out; have a1 := hsv68.out; have a2 := hsv93.out; have a3 := hsv98.out; have a4 := hsv100.out; have a5 := hg8.out; have a6 := hl8.out; omega))
        have bN : Blk (((v100.setCell ⟨v68.heap.size, 0, none⟩ (.int .i64 ps)).setCell ⟨v68.heap.size, 1, none⟩ (.slice (some ⟨g8, 0, none⟩) 1 cap8)).setCell ⟨v68.heap.size, 2, none⟩ (.slice B xs.length ce)) v68.heap.size 25 #[.int .i64 ps, .slice (some ⟨g8, 0, none⟩) 1 cap8, .slice B xs.length ce] := (((bDv100).set 0 (.int .i64 ps)).set 1 (.slice (some ⟨g8, 0, none⟩) 1 cap8)).set 2 (.slice B xs.length ce)
        have hbN := ((hbv100.setCell (p := ⟨v68.heap.size, 0, none⟩) hgD (.int .i64 ps)).setCell (p := ⟨v68.heap.size, 1, none⟩) hgD (.slice (some ⟨g8, 0, none⟩) 1 cap8)).setCell (p := ⟨v68.heap.size, 2, none⟩) hgD (.slice B xs.length ce)
        have hIN : IRow (((v100.setCell ⟨v68.heap.size, 0, none⟩ (.int .i64 ps)).setCell ⟨v68.heap.size, 1, none⟩ (.slice (some ⟨g8, 0, none⟩) 1 cap8)).setCell ⟨v68.heap.size, 2, none⟩ (.slice B xs.length ce)) (((v100.setCell ⟨v68.heap.size, 0, none⟩ (.int .i64 ps)).setCell ⟨v68.heap.size, 1, none⟩ (.slice (some ⟨g8, 0, none⟩) 1 cap8)).setCell ⟨v68.heap.size, 2, none⟩ (.slice B xs.length ce)).heap.size (some ⟨g8, 0, none⟩) ([] ++ [t]) := row_far3 (row_ints hR8v100 ) (show g8 ≠ v68.heap.size from (by have a0 := hsv0.out; have a1 := hsv68.out; have a2 := hsv93.out; have a3 := hsv98.out; have a4 := hsv100.out; have a5 := hg8.out; have a6 := hl8.out; omega)) _ _ _
        have hcp := own_cap2 hR8v100
        clear z0 z1 z2 f0 f1 f2
        refine hK.out _ _ ?_ (fun hHeld => ?_)
        · exact HBX.out _ (hb4.trans (hbN.mono hb4.size))
        clear hK K
        try simp only [Act.put, List.setIfInBounds_toArray, List.set_cons_zero, List.set_cons_succ]
        refine wpAnyH_done (by kernel_rfl) ?_ _
        refine NoPanic.normal ?_
        have hbF := (hb4.trans (hbN.mono hb4.size))
        have hPN := (HP.out.at hbF).ok q1 q2
        obtain ⟨b0, b1, b2⟩ := HBX.out _ hbF
        obtain ⟨d0, d1, d2⟩ := bN.three
        go_wp2_with (first
          | (go_at_call 12; refine (HCN.out _ _ _ hPN hIN hcp).mono ?_; rintro e w10 ⟨rfl, hb⟩; have hP10 := hPN.at hb; have hI10 := hIN.at hb; have hb10 := hbF.trans (hb.mono hbF.size); have bN10 := bN.below hb bN.lt; obtain ⟨d0, d1, d2⟩ := bN10.three)
          | (go_at_call 19; refine (HON.out _ _ _ hP10 hI10 hcp).mono ?_; rintro e w11 ⟨rfl, hb⟩; have hb11 := hb10.trans (hb.mono hb10.size)))
        go_ret
        exact ⟨ret_true (by simp), hB0.trans (hb11.mono hB0.size)⟩
  · go_simp
    have hbv102 := hbv0.alloc (hbv0.size) (.cells #[.int .i64 t] 3)
    have bCv102 : Blk (v0.alloc (.cells #[.int .i64 t] 3)) v0.heap.size 3 #[.int .i64 t] := Blk.new v0 _ _
    have hsv102 : (v0.alloc (.cells #[.int .i64 t] 3)).heap.size = v0.heap.size + 1 := World.size_alloc _ _
    refine hK.out _ _ ?_ (fun hHeld => ?_)
    · exact HBX.out _ (hb4.trans (hbv102.mono hb4.size))
    clear hK K
    try simp only [Act.put, List.setIfInBounds_toArray, List.set_cons_zero, List.set_cons_succ]
    obtain ⟨v102, ev102⟩ : ∃ x, v0.alloc (.cells #[.int .i64 t] 3) = x := ⟨_, rfl⟩
    rw [ev102] at hbv102 bCv102 hsv102 hHeld ⊢
    clear ev102
    replace hsv102 := Lib.hid hsv102
    refine wpAnyH_ready (rs := [2, 12]) (by kernel_rfl) (by simp) ?_
    refine (AllReadyH.cons (o := { dst := some 32, op := Op.buildSlice 22 0 #[], type := 22, pos := "law.go:95", after := #[], guard := none }) rfl (fun K hK => ?_) (AllReadyH.cons (o := { dst := some 7, op := Op.alloc 25, type := 0, pos := "law.go:95", after := #[], guard := none }) rfl (fun K hK => ?_) AllReadyH.nil))
    · go_simp
      have hbv103 := hbv102.alloc (hbv102.size) (.cells #[] 3)
      have bEv103 : Blk (v102.alloc (.cells #[] 3)) v102.heap.size 3 #[] := Blk.new v102 _ _
      have hsv103 : (v102.alloc (.cells #[] 3)).heap.size = v102.heap.size + 1 := World.size_alloc _ _
      have bCv103 := (bCv102).alloc (.cells #[] 3)
      refine hK.out _ _ ?_ (fun hHeld => ?_)
      · exact HBX.out _ (hb4.trans (hbv103.mono hb4.size))
      clear hK K
      try simp only [Act.put, List.setIfInBounds_toArray, List.set_cons_zero, List.set_cons_succ]
      obtain ⟨v103, ev103⟩ : ∃ x, v102.alloc (.cells #[] 3) = x := ⟨_, rfl⟩
      rw [ev103] at hbv103 bEv103 hsv103 bCv103 hHeld ⊢
      clear ev103
      replace hsv103 := Lib.hid hsv103
      refine wpAnyH_ready (rs := [5, 12]) (by kernel_rfl) (by simp) ?_
      refine (AllReadyH.cons (o := { dst := some 35, op := Op.call { callee := Callee.builtin Builtin.append, args := #[Operand.tmp 32, Operand.tmp 34], argTypes := #[22, 22] }, type := 22, pos := "law.go:95", after := #[{ on := 2, ground := Ground.data }, { on := 4, ground := Ground.data }], guard := none }) rfl (fun K hK => ?_) (AllReadyH.cons (o := { dst := some 7, op := Op.alloc 25, type := 0, pos := "law.go:95", after := #[], guard := none }) rfl (fun K hK => ?_) AllReadyH.nil))
      · refine step_append_nothing rfl _ _ rfl v102.heap.size rfl A c rfl ?_
        refine hK.out _ _ ?_ (fun hHeld => ?_)
        · exact HBX.out _ (hb4.trans (hbv103.mono hb4.size))
        clear hK K
        try simp only [Act.put, List.setIfInBounds_toArray, List.set_cons_zero, List.set_cons_succ]
        have hR5v104 := row0 (base := w4.heap.size) bEv103 (show w4.heap.size ≤ v102.heap.size from (by have a0 := hsv0.out; have a1 := hsv102.out; have a2 := hsv103.out; omega))
        refine wpAnyH_ready (rs := [8, 12]) (by kernel_rfl) (by simp) ?_
        refine (AllReadyH.cons (o := { dst := some 38, op := Op.call { callee := Callee.builtin Builtin.append, args := #[Operand.tmp 35, Operand.tmp 37], argTypes := #[22, 22] }, type := 22, pos := "law.go:95", after := #[{ on := 5, ground := Ground.data }, { on := 7, ground := Ground.data }, { on := 5, ground := Ground.chain }], guard := none }) rfl (fun K hK => ?_) (AllReadyH.cons (o := { dst := some 7, op := Op.alloc 25, type := 0, pos := "law.go:95", after := #[], guard := none }) rfl (fun K hK => ?_) AllReadyH.nil))
        · refine step_append_lies _ (by rfl) _ _ _ (by rfl) w4.heap.size 3 ig _ 1 8 Try.underlying22 hig hz0 hz1 hz2 rfl (by omega) _ 0 [] (by rfl) hR5v104 ⟨v0.heap.size, 0, none⟩ 1 1 [.int .i64 t] (by rfl) (by rfl) (World.news_of_block (cs := #[.int .i64 t]) (t := 3) (fr := (0, 0)) bCv103) (by simp [Value.oneCell']) (by omega) (by simp only [maxLen]; omega) (by omega) (hbv103.size) (v103.heap.size) rfl ?_
          intro g8 cap8 v105 hR8v105 hgrow hat hlt
          have hbv105 := hbv103.grown hgrow (hbv103.size) (fun k e => ((hR5v104).lt k e).1)
          have hsv105 := Lib.hid (hgrow.size)
          have hg8 := Lib.hid (show g8 = v102.heap.size ∨ g8 = v103.heap.size from by rcases hat with q | q; (exact .inl (Option.some.inj q).symm); exact .inr q)
          have hl8 := Lib.hid (hR8v105.lt _ rfl).2
          clear hgrow hat
          refine hK.out _ _ ?_ (fun hHeld => ?_)
          · exact HBX.out _ (hb4.trans (hbv105.mono hb4.size))
          clear hK K
          try simp only [Act.put, List.setIfInBounds_toArray, List.set_cons_zero, List.set_cons_succ]
          try simp only [Nat.zero_add]
          refine wpAnyH_take (i := 11) (oi := { dst := some 41, op := Op.build 25 #[(0, Operand.tmp 31), (1, Operand.tmp 38), (2, Operand.tmp 40)], type := 25, pos := "law.go:95", after := #[{ on := 1, ground := Ground.data }, { on := 8, ground := Ground.data }, { on := 10, ground := Ground.data }], guard := none }) (v := ?_) rfl (by kernel_rfl) (by kernel_rfl) (by kernel_rfl) (fun _ _ _ h => h) (Or.inl ⟨by rfl, ?_⟩) (by assumption) ?_
          rotate_left
          · (intro w hSw; (try dsimp only at hSw); go_simp; (try with_reducible rfl))
          try simp only [Act.put, List.setIfInBounds_toArray, List.set_cons_zero, List.set_cons_succ]
          refine wpAnyH_ready (rs := [12]) (by kernel_rfl) (by simp) ?_
          refine (AllReadyH.cons (o := { dst := some 7, op := Op.alloc 25, type := 0, pos := "law.go:95", after := #[], guard := none }) rfl (fun K hK => ?_) AllReadyH.nil)
          go_simp
          have hbv106 := hbv105.alloc (hbv105.size) (.cells #[.int .i64 0, .slice none 0 0, .slice none 0 0] 25)
          have bDv106 : Blk (v105.alloc (.cells #[.int .i64 0, .slice none 0 0, .slice none 0 0] 25)) v105.heap.size 25 #[.int .i64 0, .slice none 0 0, .slice none 0 0] := Blk.new v105 _ _
          have hsv106 : (v105.alloc (.cells #[.int .i64 0, .slice none 0 0, .slice none 0 0] 25)).heap.size = v105.heap.size + 1 := World.size_alloc _ _
          have hR8v106 := (hR8v105).alloc (.cells #[.int .i64 0, .slice none 0 0, .slice none 0 0] 25)
          refine hK.out _ _ ?_ (fun hHeld => ?_)
          · exact HBX.out _ (hb4.trans (hbv106.mono hb4.size))
          clear hK K
          try simp only [Act.put, List.setIfInBounds_toArray, List.set_cons_zero, List.set_cons_succ]
          obtain ⟨v106, ev106⟩ : ∃ x, v105.alloc (.cells #[.int .i64 0, .slice none 0 0, .slice none 0 0] 25) = x := ⟨_, rfl⟩
          rw [ev106] at hbv106 bDv106 hsv106 hR8v106 hHeld ⊢
          clear ev106
          replace hsv106 := Lib.hid hsv106
          refine wpAnyH_ready (rs := [13]) (by kernel_rfl) (by simp) ?_
          refine (AllReadyH.cons (o := { dst := none, op := Op.store 25 (Operand.tmp 7) (Operand.tmp 41), type := 0, pos := "law.go:95", after := #[{ on := 12, ground := Ground.data }, { on := 11, ground := Ground.data }, { on := 8, ground := Ground.chain }, { on := 0, ground := Ground.phase }, { on := 1, ground := Ground.phase }, { on := 2, ground := Ground.phase }, { on := 3, ground := Ground.phase }, { on := 4, ground := Ground.phase }, { on := 5, ground := Ground.phase }, { on := 6, ground := Ground.phase }, { on := 7, ground := Ground.phase }, { on := 8, ground := Ground.phase }, { on := 9, ground := Ground.phase }, { on := 10, ground := Ground.phase }, { on := 11, ground := Ground.phase }, { on := 12, ground := Ground.phase }], guard := none }) rfl (fun K hK => ?_) AllReadyH.nil)
          obtain ⟨z0, z1, z2⟩ := (bDv106).three
          have f0 := (bDv106).frozen 0
          have f1 := (bDv106).frozen 1
          have f2 := (bDv106).frozen 2
          go_simp
          have hgD := (show w4.heap.size ≤ v105.heap.size from (by have a0 := hsv0.out; have a1 := hsv102.out; have a2 := hsv103.out; have a3 := hsv105.out; have a4 := hg8.out; have a5 := hl8.out; have a6 := hsv106.out; omega))
          have bN : Blk (((v106.setCell ⟨v105.heap.size, 0, none⟩ (.int .i64 ps)).setCell ⟨v105.heap.size, 1, none⟩ (.slice (some ⟨g8, 0, none⟩) 1 cap8)).setCell ⟨v105.heap.size, 2, none⟩ (.slice B xs.length ce)) v105.heap.size 25 #[.int .i64 ps, .slice (some ⟨g8, 0, none⟩) 1 cap8, .slice B xs.length ce] := (((bDv106).set 0 (.int .i64 ps)).set 1 (.slice (some ⟨g8, 0, none⟩) 1 cap8)).set 2 (.slice B xs.length ce)
          have hbN := ((hbv106.setCell (p := ⟨v105.heap.size, 0, none⟩) hgD (.int .i64 ps)).setCell (p := ⟨v105.heap.size, 1, none⟩) hgD (.slice (some ⟨g8, 0, none⟩) 1 cap8)).setCell (p := ⟨v105.heap.size, 2, none⟩) hgD (.slice B xs.length ce)
          have hIN : IRow (((v106.setCell ⟨v105.heap.size, 0, none⟩ (.int .i64 ps)).setCell ⟨v105.heap.size, 1, none⟩ (.slice (some ⟨g8, 0, none⟩) 1 cap8)).setCell ⟨v105.heap.size, 2, none⟩ (.slice B xs.length ce)) (((v106.setCell ⟨v105.heap.size, 0, none⟩ (.int .i64 ps)).setCell ⟨v105.heap.size, 1, none⟩ (.slice (some ⟨g8, 0, none⟩) 1 cap8)).setCell ⟨v105.heap.size, 2, none⟩ (.slice B xs.length ce)).heap.size (some ⟨g8, 0, none⟩) ([] ++ [t]) := row_far3 (row_ints hR8v106 ) (show g8 ≠ v105.heap.size from (by have a0 := hsv0.out; have a1 := hsv102.out; have a2 := hsv103.out; have a3 := hsv105.out; have a4 := hg8.out; have a5 := hl8.out; have a6 := hsv106.out; omega)) _ _ _
          have hcp := own_cap2 hR8v106
          clear z0 z1 z2 f0 f1 f2
          refine hK.out _ _ ?_ (fun hHeld => ?_)
          · exact HBX.out _ (hb4.trans (hbN.mono hb4.size))
          clear hK K
          try simp only [Act.put, List.setIfInBounds_toArray, List.set_cons_zero, List.set_cons_succ]
          refine wpAnyH_done (by kernel_rfl) ?_ _
          refine NoPanic.normal ?_
          have hbF := (hb4.trans (hbN.mono hb4.size))
          have hPN := (HP.out.at hbF).ok q1 q2
          obtain ⟨b0, b1, b2⟩ := HBX.out _ hbF
          obtain ⟨d0, d1, d2⟩ := bN.three
          go_wp2_with (first
            | (go_at_call 12; refine (HCN.out _ _ _ hPN hIN hcp).mono ?_; rintro e w10 ⟨rfl, hb⟩; have hP10 := hPN.at hb; have hI10 := hIN.at hb; have hb10 := hbF.trans (hb.mono hbF.size); have bN10 := bN.below hb bN.lt; obtain ⟨d0, d1, d2⟩ := bN10.three)
            | (go_at_call 19; refine (HON.out _ _ _ hP10 hI10 hcp).mono ?_; rintro e w11 ⟨rfl, hb⟩; have hb11 := hb10.trans (hb.mono hb10.size)))
          go_ret
          exact ⟨ret_true (by simp), hB0.trans (hb11.mono hB0.size)⟩
        · go_simp
          have hbv108 := hbv103.alloc (hbv103.size) (.cells #[.int .i64 0, .slice none 0 0, .slice none 0 0] 25)
          have bDv108 : Blk (v103.alloc (.cells #[.int .i64 0, .slice none 0 0, .slice none 0 0] 25)) v103.heap.size 25 #[.int .i64 0, .slice none 0 0, .slice none 0 0] := Blk.new v103 _ _
          have hsv108 : (v103.alloc (.cells #[.int .i64 0, .slice none 0 0, .slice none 0 0] 25)).heap.size = v103.heap.size + 1 := World.size_alloc _ _
          have bCv108 := (bCv103).alloc (.cells #[.int .i64 0, .slice none 0 0, .slice none 0 0] 25)
          have hR5v108 := (hR5v104).alloc (.cells #[.int .i64 0, .slice none 0 0, .slice none 0 0] 25)
          refine hK.out _ _ ?_ (fun hHeld => ?_)
          · exact HBX.out _ (hb4.trans (hbv108.mono hb4.size))
          clear hK K
          try simp only [Act.put, List.setIfInBounds_toArray, List.set_cons_zero, List.set_cons_succ]
          obtain ⟨v108, ev108⟩ : ∃ x, v103.alloc (.cells #[.int .i64 0, .slice none 0 0, .slice none 0 0] 25) = x := ⟨_, rfl⟩
          rw [ev108] at hbv108 bDv108 hsv108 bCv108 hR5v108 hHeld ⊢
          clear ev108
          replace hsv108 := Lib.hid hsv108
          refine wpAnyH_ready (rs := [8]) (by kernel_rfl) (by simp) ?_
          refine (AllReadyH.cons (o := { dst := some 38, op := Op.call { callee := Callee.builtin Builtin.append, args := #[Operand.tmp 35, Operand.tmp 37], argTypes := #[22, 22] }, type := 22, pos := "law.go:95", after := #[{ on := 5, ground := Ground.data }, { on := 7, ground := Ground.data }, { on := 5, ground := Ground.chain }], guard := none }) rfl (fun K hK => ?_) AllReadyH.nil)
          refine step_append_lies _ (by rfl) _ _ _ (by rfl) w4.heap.size 3 ig _ 1 8 Try.underlying22 hig hz0 hz1 hz2 rfl (by omega) _ 0 [] (by rfl) hR5v108 ⟨v0.heap.size, 0, none⟩ 1 1 [.int .i64 t] (by rfl) (by rfl) (World.news_of_block (cs := #[.int .i64 t]) (t := 3) (fr := (0, 0)) bCv108) (by simp [Value.oneCell']) (by omega) (by simp only [maxLen]; omega) (by omega) (hbv108.size) (v108.heap.size) rfl ?_
          intro g8 cap8 v109 hR8v109 hgrow hat hlt
          have hbv109 := hbv108.grown hgrow (hbv108.size) (fun k e => ((hR5v108).lt k e).1)
          have hsv109 := Lib.hid (hgrow.size)
          have hg8 := Lib.hid (show g8 = v102.heap.size ∨ g8 = v108.heap.size from by rcases hat with q | q; (exact .inl (Option.some.inj q).symm); exact .inr q)
          have hl8 := Lib.hid (hR8v109.lt _ rfl).2
          have bDv109 := (bDv108).grown hgrow (fun hq => absurd (show v103.heap.size = v102.heap.size from Option.some.inj hq) (by have a0 := hsv0.out; have a1 := hsv102.out; have a2 := hsv103.out; have a3 := hsv108.out; omega))
          clear hgrow hat
          refine hK.out _ _ ?_ (fun hHeld => ?_)
          · exact HBX.out _ (hb4.trans (hbv109.mono hb4.size))
          clear hK K
          try simp only [Act.put, List.setIfInBounds_toArray, List.set_cons_zero, List.set_cons_succ]
          try simp only [Nat.zero_add]
          refine wpAnyH_take (i := 11) (oi := { dst := some 41, op := Op.build 25 #[(0, Operand.tmp 31), (1, Operand.tmp 38), (2, Operand.tmp 40)], type := 25, pos := "law.go:95", after := #[{ on := 1, ground := Ground.data }, { on := 8, ground := Ground.data }, { on := 10, ground := Ground.data }], guard := none }) (v := ?_) rfl (by kernel_rfl) (by kernel_rfl) (by kernel_rfl) (fun _ _ _ h => h) (Or.inl ⟨by rfl, ?_⟩) (by assumption) ?_
          rotate_left
          · (intro w hSw; (try dsimp only at hSw); go_simp; (try with_reducible rfl))
          try simp only [Act.put, List.setIfInBounds_toArray, List.set_cons_zero, List.set_cons_succ]
          refine wpAnyH_ready (rs := [13]) (by kernel_rfl) (by simp) ?_
          refine (AllReadyH.cons (o := { dst := none, op := Op.store 25 (Operand.tmp 7) (Operand.tmp 41), type := 0, pos := "law.go:95", after := #[{ on := 12, ground := Ground.data }, { on := 11, ground := Ground.data }, { on := 8, ground := Ground.chain }, { on := 0, ground := Ground.phase }, { on := 1, ground := Ground.phase }, { on := 2, ground := Ground.phase }, { on := 3, ground := Ground.phase }, { on := 4, ground := Ground.phase }, { on := 5, ground := Ground.phase }, { on := 6, ground := Ground.phase }, { on := 7, ground := Ground.phase }, { on := 8, ground := Ground.phase }, { on := 9, ground := Ground.phase }, { on := 10, ground := Ground.phase }, { on := 11, ground := Ground.phase }, { on := 12, ground := Ground.phase }], guard := none }) rfl (fun K hK => ?_) AllReadyH.nil)
          obtain ⟨z0, z1, z2⟩ := (bDv109).three
          have f0 := (bDv109).frozen 0
          have f1 := (bDv109).frozen 1
          have f2 := (bDv109).frozen 2
          go_simp
          have hgD := (show w4.heap.size ≤ v103.heap.size from (by have a0 := hsv0.out; have a1 := hsv102.out; have a2 := hsv103.out; have a3 := hsv108.out; have a4 := hsv109.out; have a5 := hg8.out; have a6 := hl8.out; omega))
          have bN : Blk (((v109.setCell ⟨v103.heap.size, 0, none⟩ (.int .i64 ps)).setCell ⟨v103.heap.size, 1, none⟩ (.slice (some ⟨g8, 0, none⟩) 1 cap8)).setCell ⟨v103.heap.size, 2, none⟩ (.slice B xs.length ce)) v103.heap.size 25 #[.int .i64 ps, .slice (some ⟨g8, 0, none⟩) 1 cap8, .slice B xs.length ce] := (((bDv109).set 0 (.int .i64 ps)).set 1 (.slice (some ⟨g8, 0, none⟩) 1 cap8)).set 2 (.slice B xs.length ce)
          have hbN := ((hbv109.setCell (p := ⟨v103.heap.size, 0, none⟩) hgD (.int .i64 ps)).setCell (p := ⟨v103.heap.size, 1, none⟩) hgD (.slice (some ⟨g8, 0, none⟩) 1 cap8)).setCell (p := ⟨v103.heap.size, 2, none⟩) hgD (.slice B xs.length ce)
          have hIN : IRow (((v109.setCell ⟨v103.heap.size, 0, none⟩ (.int .i64 ps)).setCell ⟨v103.heap.size, 1, none⟩ (.slice (some ⟨g8, 0, none⟩) 1 cap8)).setCell ⟨v103.heap.size, 2, none⟩ (.slice B xs.length ce)) (((v109.setCell ⟨v103.heap.size, 0, none⟩ (.int .i64 ps)).setCell ⟨v103.heap.size, 1, none⟩ (.slice (some ⟨g8, 0, none⟩) 1 cap8)).setCell ⟨v103.heap.size, 2, none⟩ (.slice B xs.length ce)).heap.size (some ⟨g8, 0, none⟩) ([] ++ [t]) := row_far3 (row_ints hR8v109 ) (show g8 ≠ v103.heap.size from (by have a0 := hsv0.out; have a1 := hsv102.out; have a2 := hsv103.out; have a3 := hsv108.out; have a4 := hsv109.out; have a5 := hg8.out; have a6 := hl8.out; omega)) _ _ _
          have hcp := own_cap2 hR8v109
          clear z0 z1 z2 f0 f1 f2
          refine hK.out _ _ ?_ (fun hHeld => ?_)
          · exact HBX.out _ (hb4.trans (hbN.mono hb4.size))
          clear hK K
          try simp only [Act.put, List.setIfInBounds_toArray, List.set_cons_zero, List.set_cons_succ]
          refine wpAnyH_done (by kernel_rfl) ?_ _
          refine NoPanic.normal ?_
          have hbF := (hb4.trans (hbN.mono hb4.size))
          have hPN := (HP.out.at hbF).ok q1 q2
          obtain ⟨b0, b1, b2⟩ := HBX.out _ hbF
          obtain ⟨d0, d1, d2⟩ := bN.three
          go_wp2_with (first
            | (go_at_call 12; refine (HCN.out _ _ _ hPN hIN hcp).mono ?_; rintro e w10 ⟨rfl, hb⟩; have hP10 := hPN.at hb; have hI10 := hIN.at hb; have hb10 := hbF.trans (hb.mono hbF.size); have bN10 := bN.below hb bN.lt; obtain ⟨d0, d1, d2⟩ := bN10.three)
            | (go_at_call 19; refine (HON.out _ _ _ hP10 hI10 hcp).mono ?_; rintro e w11 ⟨rfl, hb⟩; have hb11 := hb10.trans (hb.mono hb10.size)))
          go_ret
          exact ⟨ret_true (by simp), hB0.trans (hb11.mono hB0.size)⟩
      · go_simp
        have hbv111 := hbv103.alloc (hbv103.size) (.cells #[.int .i64 0, .slice none 0 0, .slice none 0 0] 25)
        have bDv111 : Blk (v103.alloc (.cells #[.int .i64 0, .slice none 0 0, .slice none 0 0] 25)) v103.heap.size 25 #[.int .i64 0, .slice none 0 0, .slice none 0 0] := Blk.new v103 _ _
        have hsv111 : (v103.alloc (.cells #[.int .i64 0, .slice none 0 0, .slice none 0 0] 25)).heap.size = v103.heap.size + 1 := World.size_alloc _ _
        have bEv111 := (bEv103).alloc (.cells #[.int .i64 0, .slice none 0 0, .slice none 0 0] 25)
        have bCv111 := (bCv103).alloc (.cells #[.int .i64 0, .slice none 0 0, .slice none 0 0] 25)
        refine hK.out _ _ ?_ (fun hHeld => ?_)
        · exact HBX.out _ (hb4.trans (hbv111.mono hb4.size))
        clear hK K
        try simp only [Act.put, List.setIfInBounds_toArray, List.set_cons_zero, List.set_cons_succ]
        obtain ⟨v111, ev111⟩ : ∃ x, v103.alloc (.cells #[.int .i64 0, .slice none 0 0, .slice none 0 0] 25) = x := ⟨_, rfl⟩
        rw [ev111] at hbv111 bDv111 hsv111 bEv111 bCv111 hHeld ⊢
        clear ev111
        replace hsv111 := Lib.hid hsv111
        refine wpAnyH_ready (rs := [5]) (by kernel_rfl) (by simp) ?_
        refine (AllReadyH.cons (o := { dst := some 35, op := Op.call { callee := Callee.builtin Builtin.append, args := #[Operand.tmp 32, Operand.tmp 34], argTypes := #[22, 22] }, type := 22, pos := "law.go:95", after := #[{ on := 2, ground := Ground.data }, { on := 4, ground := Ground.data }], guard := none }) rfl (fun K hK => ?_) AllReadyH.nil)
        refine step_append_nothing rfl _ _ rfl v102.heap.size rfl A c rfl ?_
        refine hK.out _ _ ?_ (fun hHeld => ?_)
        · exact HBX.out _ (hb4.trans (hbv111.mono hb4.size))
        clear hK K
        try simp only [Act.put, List.setIfInBounds_toArray, List.set_cons_zero, List.set_cons_succ]
        have hR5v112 := row0 (base := w4.heap.size) bEv111 (show w4.heap.size ≤ v102.heap.size from (by have a0 := hsv0.out; have a1 := hsv102.out; have a2 := hsv103.out; have a3 := hsv111.out; omega))
        refine wpAnyH_ready (rs := [8]) (by kernel_rfl) (by simp) ?_
        refine (AllReadyH.cons (o := { dst := some 38, op := Op.call { callee := Callee.builtin Builtin.append, args := #[Operand.tmp 35, Operand.tmp 37], argTypes := #[22, 22] }, type := 22, pos := "law.go:95", after := #[{ on := 5, ground := Ground.data }, { on := 7, ground := Ground.data }, { on := 5, ground := Ground.chain }], guard := none }) rfl (fun K hK => ?_) AllReadyH.nil)
        refine step_append_lies _ (by rfl) _ _ _ (by rfl) w4.heap.size 3 ig _ 1 8 Try.underlying22 hig hz0 hz1 hz2 rfl (by omega) _ 0 [] (by rfl) hR5v112 ⟨v0.heap.size, 0, none⟩ 1 1 [.int .i64 t] (by rfl) (by rfl) (World.news_of_block (cs := #[.int .i64 t]) (t := 3) (fr := (0, 0)) bCv111) (by simp [Value.oneCell']) (by omega) (by simp only [maxLen]; omega) (by omega) (hbv111.size) (v111.heap.size) rfl ?_
        intro g8 cap8 v113 hR8v113 hgrow hat hlt
        have hbv113 := hbv111.grown hgrow (hbv111.size) (fun k e => ((hR5v112).lt k e).1)
        have hsv113 := Lib.hid (hgrow.size)
        have hg8 := Lib.hid (show g8 = v102.heap.size ∨ g8 = v111.heap.size from by rcases hat with q | q; (exact .inl (Option.some.inj q).symm); exact .inr q)
        have hl8 := Lib.hid (hR8v113.lt _ rfl).2
        have bDv113 := (bDv111).grown hgrow (fun hq => absurd (show v103.heap.size = v102.heap.size from Option.some.inj hq) (by have a0 := hsv0.out; have a1 := hsv102.out; have a2 := hsv103.out; have a3 := hsv111.out; omega))
        clear hgrow hat
        refine hK.out _ _ ?_ (fun hHeld => ?_)
        · exact HBX.out _ (hb4.trans (hbv113.mono hb4.size))
        clear hK K
        try simp only [Act.put, List.setIfInBounds_toArray, List.set_cons_zero, List.set_cons_succ]
        try simp only [Nat.zero_add]
        refine wpAnyH_take (i := 11) (oi := { dst := some 41, op := Op.build 25 #[(0, Operand.tmp 31), (1, Operand.tmp 38), (2, Operand.tmp 40)], type := 25, pos := "law.go:95", after := #[{ on := 1, ground := Ground.data }, { on := 8, ground := Ground.data }, { on := 10, ground := Ground.data }], guard := none }) (v := ?_) rfl (by kernel_rfl) (by kernel_rfl) (by kernel_rfl) (fun _ _ _ h => h) (Or.inl ⟨by rfl, ?_⟩) (by assumption) ?_
        rotate_left
        · (intro w hSw; (try dsimp only at hSw); go_simp; (try with_reducible rfl))
        try simp only [Act.put, List.setIfInBounds_toArray, List.set_cons_zero, List.set_cons_succ]
        refine wpAnyH_ready (rs := [13]) (by kernel_rfl) (by simp) ?_
        refine (AllReadyH.cons (o := { dst := none, op := Op.store 25 (Operand.tmp 7) (Operand.tmp 41), type := 0, pos := "law.go:95", after := #[{ on := 12, ground := Ground.data }, { on := 11, ground := Ground.data }, { on := 8, ground := Ground.chain }, { on := 0, ground := Ground.phase }, { on := 1, ground := Ground.phase }, { on := 2, ground := Ground.phase }, { on := 3, ground := Ground.phase }, { on := 4, ground := Ground.phase }, { on := 5, ground := Ground.phase }, { on := 6, ground := Ground.phase }, { on := 7, ground := Ground.phase }, { on := 8, ground := Ground.phase }, { on := 9, ground := Ground.phase }, { on := 10, ground := Ground.phase }, { on := 11, ground := Ground.phase }, { on := 12, ground := Ground.phase }], guard := none }) rfl (fun K hK => ?_) AllReadyH.nil)
        obtain ⟨z0, z1, z2⟩ := (bDv113).three
        have f0 := (bDv113).frozen 0
        have f1 := (bDv113).frozen 1
        have f2 := (bDv113).frozen 2
        go_simp
        have hgD := (show w4.heap.size ≤ v103.heap.size from (by have a0 := hsv0.out; have a1 := hsv102.out; have a2 := hsv103.out; have a3 := hsv111.out; have a4 := hsv113.out; have a5 := hg8.out; have a6 := hl8.out; omega))
        have bN : Blk (((v113.setCell ⟨v103.heap.size, 0, none⟩ (.int .i64 ps)).setCell ⟨v103.heap.size, 1, none⟩ (.slice (some ⟨g8, 0, none⟩) 1 cap8)).setCell ⟨v103.heap.size, 2, none⟩ (.slice B xs.length ce)) v103.heap.size 25 #[.int .i64 ps, .slice (some ⟨g8, 0, none⟩) 1 cap8, .slice B xs.length ce] := (((bDv113).set 0 (.int .i64 ps)).set 1 (.slice (some ⟨g8, 0, none⟩) 1 cap8)).set 2 (.slice B xs.length ce)
        have hbN := ((hbv113.setCell (p := ⟨v103.heap.size, 0, none⟩) hgD (.int .i64 ps)).setCell (p := ⟨v103.heap.size, 1, none⟩) hgD (.slice (some ⟨g8, 0, none⟩) 1 cap8)).setCell (p := ⟨v103.heap.size, 2, none⟩) hgD (.slice B xs.length ce)
        have hIN : IRow (((v113.setCell ⟨v103.heap.size, 0, none⟩ (.int .i64 ps)).setCell ⟨v103.heap.size, 1, none⟩ (.slice (some ⟨g8, 0, none⟩) 1 cap8)).setCell ⟨v103.heap.size, 2, none⟩ (.slice B xs.length ce)) (((v113.setCell ⟨v103.heap.size, 0, none⟩ (.int .i64 ps)).setCell ⟨v103.heap.size, 1, none⟩ (.slice (some ⟨g8, 0, none⟩) 1 cap8)).setCell ⟨v103.heap.size, 2, none⟩ (.slice B xs.length ce)).heap.size (some ⟨g8, 0, none⟩) ([] ++ [t]) := row_far3 (row_ints hR8v113 ) (show g8 ≠ v103.heap.size from (by have a0 := hsv0.out; have a1 := hsv102.out; have a2 := hsv103.out; have a3 := hsv111.out; have a4 := hsv113.out; have a5 := hg8.out; have a6 := hl8.out; omega)) _ _ _
        have hcp := own_cap2 hR8v113
        clear z0 z1 z2 f0 f1 f2
        refine hK.out _ _ ?_ (fun hHeld => ?_)
        · exact HBX.out _ (hb4.trans (hbN.mono hb4.size))
        clear hK K
        try simp only [Act.put, List.setIfInBounds_toArray, List.set_cons_zero, List.set_cons_succ]
        refine wpAnyH_done (by kernel_rfl) ?_ _
        refine NoPanic.normal ?_
        have hbF := (hb4.trans (hbN.mono hb4.size))
        have hPN := (HP.out.at hbF).ok q1 q2
        obtain ⟨b0, b1, b2⟩ := HBX.out _ hbF
        obtain ⟨d0, d1, d2⟩ := bN.three
        go_wp2_with (first
          | (go_at_call 12; refine (HCN.out _ _ _ hPN hIN hcp).mono ?_; rintro e w10 ⟨rfl, hb⟩; have hP10 := hPN.at hb; have hI10 := hIN.at hb; have hb10 := hbF.trans (hb.mono hbF.size); have bN10 := bN.below hb bN.lt; obtain ⟨d0, d1, d2⟩ := bN10.three)
          | (go_at_call 19; refine (HON.out _ _ _ hP10 hI10 hcp).mono ?_; rintro e w11 ⟨rfl, hb⟩; have hb11 := hb10.trans (hb.mono hb10.size)))
        go_ret
        exact ⟨ret_true (by simp), hB0.trans (hb11.mono hB0.size)⟩
    · go_simp
      have hbv115 := hbv102.alloc (hbv102.size) (.cells #[.int .i64 0, .slice none 0 0, .slice none 0 0] 25)
      have bDv115 : Blk (v102.alloc (.cells #[.int .i64 0, .slice none 0 0, .slice none 0 0] 25)) v102.heap.size 25 #[.int .i64 0, .slice none 0 0, .slice none 0 0] := Blk.new v102 _ _
      have hsv115 : (v102.alloc (.cells #[.int .i64 0, .slice none 0 0, .slice none 0 0] 25)).heap.size = v102.heap.size + 1 := World.size_alloc _ _
      have bCv115 := (bCv102).alloc (.cells #[.int .i64 0, .slice none 0 0, .slice none 0 0] 25)
      refine hK.out _ _ ?_ (fun hHeld => ?_)
      · exact HBX.out _ (hb4.trans (hbv115.mono hb4.size))
      clear hK K
      try simp only [Act.put, List.setIfInBounds_toArray, List.set_cons_zero, List.set_cons_succ]
      obtain ⟨v115, ev115⟩ : ∃ x, v102.alloc (.cells #[.int .i64 0, .slice none 0 0, .slice none 0 0] 25) = x := ⟨_, rfl⟩
      rw [ev115] at hbv115 bDv115 hsv115 bCv115 hHeld ⊢
      clear ev115
      replace hsv115 := Lib.hid hsv115
      refine wpAnyH_ready (rs := [2]) (by kernel_rfl) (by simp) ?_
      refine (AllReadyH.cons (o := { dst := some 32, op := Op.buildSlice 22 0 #[], type := 22, pos := "law.go:95", after := #[], guard := none }) rfl (fun K hK => ?_) AllReadyH.nil)
      go_simp
      have hbv116 := hbv115.alloc (hbv115.size) (.cells #[] 3)
      have bEv116 : Blk (v115.alloc (.cells #[] 3)) v115.heap.size 3 #[] := Blk.new v115 _ _
      have hsv116 : (v115.alloc (.cells #[] 3)).heap.size = v115.heap.size + 1 := World.size_alloc _ _
      have bCv116 := (bCv115).alloc (.cells #[] 3)
      have bDv116 := (bDv115).alloc (.cells #[] 3)
      refine hK.out _ _ ?_ (fun hHeld => ?_)
      · exact HBX.out _ (hb4.trans (hbv116.mono hb4.size))
      clear hK K
      try simp only [Act.put, List.setIfInBounds_toArray, List.set_cons_zero, List.set_cons_succ]
      obtain ⟨v116, ev116⟩ : ∃ x, v115.alloc (.cells #[] 3) = x := ⟨_, rfl⟩
      rw [ev116] at hbv116 bEv116 hsv116 bCv116 bDv116 hHeld ⊢
      clear ev116
      replace hsv116 := Lib.hid hsv116
      refine wpAnyH_ready (rs := [5]) (by kernel_rfl) (by simp) ?_
      refine (AllReadyH.cons (o := { dst := some 35, op := Op.call { callee := Callee.builtin Builtin.append, args := #[Operand.tmp 32, Operand.tmp 34], argTypes := #[22, 22] }, type := 22, pos := "law.go:95", after := #[{ on := 2, ground := Ground.data }, { on := 4, ground := Ground.data }], guard := none }) rfl (fun K hK => ?_) AllReadyH.nil)
      refine step_append_nothing rfl _ _ rfl v115.heap.size rfl A c rfl ?_
      refine hK.out _ _ ?_ (fun hHeld => ?_)
      · exact HBX.out _ (hb4.trans (hbv116.mono hb4.size))
      clear hK K
      try simp only [Act.put, List.setIfInBounds_toArray, List.set_cons_zero, List.set_cons_succ]
      have hR5v117 := row0 (base := w4.heap.size) bEv116 (show w4.heap.size ≤ v115.heap.size from (by have a0 := hsv0.out; have a1 := hsv102.out; have a2 := hsv115.out; have a3 := hsv116.out; omega))
      refine wpAnyH_ready (rs := [8]) (by kernel_rfl) (by simp) ?_
      refine (AllReadyH.cons (o := { dst := some 38, op := Op.call { callee := Callee.builtin Builtin.append, args := #[Operand.tmp 35, Operand.tmp 37], argTypes := #[22, 22] }, type := 22, pos := "law.go:95", after := #[{ on := 5, ground := Ground.data }, { on := 7, ground := Ground.data }, { on := 5, ground := Ground.chain }], guard := none }) rfl (fun K hK => ?_) AllReadyH.nil)
      refine step_append_lies _ (by rfl) _ _ _ (by rfl) w4.heap.size 3 ig _ 1 8 Try.underlying22 hig hz0 hz1 hz2 rfl (by omega) _ 0 [] (by rfl) hR5v117 ⟨v0.heap.size, 0, none⟩ 1 1 [.int .i64 t] (by rfl) (by rfl) (World.news_of_block (cs := #[.int .i64 t]) (t := 3) (fr := (0, 0)) bCv116) (by simp [Value.oneCell']) (by omega) (by simp only [maxLen]; omega) (by omega) (hbv116.size) (v116.heap.size) rfl ?_
      intro g8 cap8 v118 hR8v118 hgrow hat hlt
      have hbv118 := hbv116.grown hgrow (hbv116.size) (fun k e => ((hR5v117).lt k e).1)
      have hsv118 := Lib.hid (hgrow.size)
      have hg8 := Lib.hid (show g8 = v115.heap.size ∨ g8 = v116.heap.size from by rcases hat with q | q; (exact .inl (Option.some.inj q).symm); exact .inr q)
      have hl8 := Lib.hid (hR8v118.lt _ rfl).2
      have bDv118 := (bDv116).grown hgrow (fun hq => absurd (show v102.heap.size = v115.heap.size from Option.some.inj hq) (by have a0 := hsv0.out; have a1 := hsv102.out; have a2 := hsv115.out; have a3 := hsv116.out; omega))
      clear hgrow hat
      refine hK.out _ _ ?_ (fun hHeld => ?_)
      · exact HBX.out _ (hb4.trans (hbv118.mono hb4.size))
      clear hK K
      try simp only [Act.put, List.setIfInBounds_toArray, List.set_cons_zero, List.set_cons_succ]
      try simp only [Nat.zero_add]
      refine wpAnyH_take (i := 11) (oi := { dst := some 41, op := Op.build 25 #[(0, Operand.tmp 31), (1, Operand.tmp 38), (2, Operand.tmp 40)], type := 25, pos := "law.go:95", after := #[{ on := 1, ground := Ground.data }, { on := 8, ground := Ground.data }, { on := 10, ground := Ground.data }], guard := none }) (v := ?_) rfl (by kernel_rfl) (by kernel_rfl) (by kernel_rfl) (fun _ _ _ h => h) (Or.inl ⟨by rfl, ?_⟩) (by assumption) ?_
      rotate_left
      · (intro w hSw; (try dsimp only at hSw); go_simp; (try with_reducible rfl))
      try simp only [Act.put, List.setIfInBounds_toArray, List.set_cons_zero, List.set_cons_succ]
      refine wpAnyH_ready (rs := [13]) (by kernel_rfl) (by simp) ?_
      refine (AllReadyH.cons (o := { dst := none, op := Op.store 25 (Operand.tmp 7) (Operand.tmp 41), type := 0, pos := "law.go:95", after := #[{ on := 12, ground := Ground.data }, { on := 11, ground := Ground.data }, { on := 8, ground := Ground.chain }, { on := 0, ground := Ground.phase }, { on := 1, ground := Ground.phase }, { on := 2, ground := Ground.phase }, { on := 3, ground := Ground.phase }, { on := 4, ground := Ground.phase }, { on := 5, ground := Ground.phase }, { on := 6, ground := Ground.phase }, { on := 7, ground := Ground.phase }, { on := 8, ground := Ground.phase }, { on := 9, ground := Ground.phase }, { on := 10, ground := Ground.phase }, { on := 11, ground := Ground.phase }, { on := 12, ground := Ground.phase }], guard := none }) rfl (fun K hK => ?_) AllReadyH.nil)
      obtain ⟨z0, z1, z2⟩ := (bDv118).three
      have f0 := (bDv118).frozen 0
      have f1 := (bDv118).frozen 1
      have f2 := (bDv118).frozen 2
      go_simp
      have hgD := (show w4.heap.size ≤ v102.heap.size from (by have a0 := hsv0.out; have a1 := hsv102.out; have a2 := hsv115.out; have a3 := hsv116.out; have a4 := hsv118.out; have a5 := hg8.out; have a6 := hl8.out; omega))
      have bN : Blk (((v118.setCell ⟨v102.heap.size, 0, none⟩ (.int .i64 ps)).setCell ⟨v102.heap.size, 1, none⟩ (.slice (some ⟨g8, 0, none⟩) 1 cap8)).setCell ⟨v102.heap.size, 2, none⟩ (.slice B xs.length ce)) v102.heap.size 25 #[.int .i64 ps, .slice (some ⟨g8, 0, none⟩) 1 cap8, .slice B xs.length ce] := (((bDv118).set 0 (.int .i64 ps)).set 1 (.slice (some ⟨g8, 0, none⟩) 1 cap8)).set 2 (.slice B xs.length ce)
      have hbN := ((hbv118.setCell (p := ⟨v102.heap.size, 0, none⟩) hgD (.int .i64 ps)).setCell (p := ⟨v102.heap.size, 1, none⟩) hgD (.slice (some ⟨g8, 0, none⟩) 1 cap8)).setCell (p := ⟨v102.heap.size, 2, none⟩) hgD (.slice B xs.length ce)
      have hIN : IRow (((v118.setCell ⟨v102.heap.size, 0, none⟩ (.int .i64 ps)).setCell ⟨v102.heap.size, 1, none⟩ (.slice (some ⟨g8, 0, none⟩) 1 cap8)).setCell ⟨v102.heap.size, 2, none⟩ (.slice B xs.length ce)) (((v118.setCell ⟨v102.heap.size, 0, none⟩ (.int .i64 ps)).setCell ⟨v102.heap.size, 1, none⟩ (.slice (some ⟨g8, 0, none⟩) 1 cap8)).setCell ⟨v102.heap.size, 2, none⟩ (.slice B xs.length ce)).heap.size (some ⟨g8, 0, none⟩) ([] ++ [t]) := row_far3 (row_ints hR8v118 ) (show g8 ≠ v102.heap.size from (by have a0 := hsv0.out; have a1 := hsv102.out; have a2 := hsv115.out; have a3 := hsv116.out; have a4 := hsv118.out; have a5 := hg8.out; have a6 := hl8.out; omega)) _ _ _
      have hcp := own_cap2 hR8v118
      clear z0 z1 z2 f0 f1 f2
      refine hK.out _ _ ?_ (fun hHeld => ?_)
      · exact HBX.out _ (hb4.trans (hbN.mono hb4.size))
      clear hK K
      try simp only [Act.put, List.setIfInBounds_toArray, List.set_cons_zero, List.set_cons_succ]
      refine wpAnyH_done (by kernel_rfl) ?_ _
      refine NoPanic.normal ?_
      have hbF := (hb4.trans (hbN.mono hb4.size))
      have hPN := (HP.out.at hbF).ok q1 q2
      obtain ⟨b0, b1, b2⟩ := HBX.out _ hbF
      obtain ⟨d0, d1, d2⟩ := bN.three
      go_wp2_with (first
        | (go_at_call 12; refine (HCN.out _ _ _ hPN hIN hcp).mono ?_; rintro e w10 ⟨rfl, hb⟩; have hP10 := hPN.at hb; have hI10 := hIN.at hb; have hb10 := hbF.trans (hb.mono hbF.size); have bN10 := bN.below hb bN.lt; obtain ⟨d0, d1, d2⟩ := bN10.three)
        | (go_at_call 19; refine (HON.out _ _ _ hP10 hI10 hcp).mono ?_; rintro e w11 ⟨rfl, hb⟩; have hb11 := hb10.trans (hb.mono hb10.size)))
      go_ret
      exact ⟨ret_true (by simp), hB0.trans (hb11.mono hB0.size)⟩
  · go_simp
    have hbv120 := hbv0.alloc (hbv0.size) (.cells #[.int .i64 0, .slice none 0 0, .slice none 0 0] 25)
    have bDv120 : Blk (v0.alloc (.cells #[.int .i64 0, .slice none 0 0, .slice none 0 0] 25)) v0.heap.size 25 #[.int .i64 0, .slice none 0 0, .slice none 0 0] := Blk.new v0 _ _
    have hsv120 : (v0.alloc (.cells #[.int .i64 0, .slice none 0 0, .slice none 0 0] 25)).heap.size = v0.heap.size + 1 := World.size_alloc _ _
    refine hK.out _ _ ?_ (fun hHeld => ?_)
    · exact HBX.out _ (hb4.trans (hbv120.mono hb4.size))
    clear hK K
    try simp only [Act.put, List.setIfInBounds_toArray, List.set_cons_zero, List.set_cons_succ]
    obtain ⟨v120, ev120⟩ : ∃ x, v0.alloc (.cells #[.int .i64 0, .slice none 0 0, .slice none 0 0] 25) = x := ⟨_, rfl⟩
    rw [ev120] at hbv120 bDv120 hsv120 hHeld ⊢
    clear ev120
    replace hsv120 := Lib.hid hsv120
    refine wpAnyH_ready (rs := [2, 7]) (by kernel_rfl) (by simp) ?_
    refine (AllReadyH.cons (o := { dst := some 32, op := Op.buildSlice 22 0 #[], type := 22, pos := "law.go:95", after := #[], guard := none }) rfl (fun K hK => ?_) (AllReadyH.cons (o := { dst := some 37, op := Op.buildSlice 22 1 #[(0, Operand.tmp 36)], type := 22, pos := "law.go:95", after := #[{ on := 6, ground := Ground.data }], guard := none }) rfl (fun K hK => ?_) AllReadyH.nil))
    · go_simp
      have hbv121 := hbv120.alloc (hbv120.size) (.cells #[] 3)
      have bEv121 : Blk (v120.alloc (.cells #[] 3)) v120.heap.size 3 #[] := Blk.new v120 _ _
      have hsv121 : (v120.alloc (.cells #[] 3)).heap.size = v120.heap.size + 1 := World.size_alloc _ _
      have bDv121 := (bDv120).alloc (.cells #[] 3)
      refine hK.out _ _ ?_ (fun hHeld => ?_)
      · exact HBX.out _ (hb4.trans (hbv121.mono hb4.size))
      clear hK K
      try simp only [Act.put, List.setIfInBounds_toArray, List.set_cons_zero, List.set_cons_succ]
      obtain ⟨v121, ev121⟩ : ∃ x, v120.alloc (.cells #[] 3) = x := ⟨_, rfl⟩
      rw [ev121] at hbv121 bEv121 hsv121 bDv121 hHeld ⊢
      clear ev121
      replace hsv121 := Lib.hid hsv121
      refine wpAnyH_ready (rs := [5, 7]) (by kernel_rfl) (by simp) ?_
      refine (AllReadyH.cons (o := { dst := some 35, op := Op.call { callee := Callee.builtin Builtin.append, args := #[Operand.tmp 32, Operand.tmp 34], argTypes := #[22, 22] }, type := 22, pos := "law.go:95", after := #[{ on := 2, ground := Ground.data }, { on := 4, ground := Ground.data }], guard := none }) rfl (fun K hK => ?_) (AllReadyH.cons (o := { dst := some 37, op := Op.buildSlice 22 1 #[(0, Operand.tmp 36)], type := 22, pos := "law.go:95", after := #[{ on := 6, ground := Ground.data }], guard := none }) rfl (fun K hK => ?_) AllReadyH.nil))
      · refine step_append_nothing rfl _ _ rfl v120.heap.size rfl A c rfl ?_
        refine hK.out _ _ ?_ (fun hHeld => ?_)
        · exact HBX.out _ (hb4.trans (hbv121.mono hb4.size))
        clear hK K
        try simp only [Act.put, List.setIfInBounds_toArray, List.set_cons_zero, List.set_cons_succ]
        have hR5v122 := row0 (base := w4.heap.size) bEv121 (show w4.heap.size ≤ v120.heap.size from (by have a0 := hsv0.out; have a1 := hsv120.out; have a2 := hsv121.out; omega))
        refine wpAnyH_ready (rs := [7]) (by kernel_rfl) (by simp) ?_
        refine (AllReadyH.cons (o := { dst := some 37, op := Op.buildSlice 22 1 #[(0, Operand.tmp 36)], type := 22, pos := "law.go:95", after := #[{ on := 6, ground := Ground.data }], guard := none }) rfl (fun K hK => ?_) AllReadyH.nil)
        go_simp
        have hbv123 := hbv121.alloc (hbv121.size) (.cells #[.int .i64 t] 3)
        have bCv123 : Blk (v121.alloc (.cells #[.int .i64 t] 3)) v121.heap.size 3 #[.int .i64 t] := Blk.new v121 _ _
        have hsv123 : (v121.alloc (.cells #[.int .i64 t] 3)).heap.size = v121.heap.size + 1 := World.size_alloc _ _
        have bDv123 := (bDv121).alloc (.cells #[.int .i64 t] 3)
        have hR5v123 := (hR5v122).alloc (.cells #[.int .i64 t] 3)
        refine hK.out _ _ ?_ (fun hHeld => ?_)
        · exact HBX.out _ (hb4.trans (hbv123.mono hb4.size))
        clear hK K
        try simp only [Act.put, List.setIfInBounds_toArray, List.set_cons_zero, List.set_cons_succ]
        obtain ⟨v123, ev123⟩ : ∃ x, v121.alloc (.cells #[.int .i64 t] 3) = x := ⟨_, rfl⟩
        rw [ev123] at hbv123 bCv123 hsv123 bDv123 hR5v123 hHeld ⊢
        clear ev123
        replace hsv123 := Lib.hid hsv123
        refine wpAnyH_ready (rs := [8]) (by kernel_rfl) (by simp) ?_
        refine (AllReadyH.cons (o := { dst := some 38, op := Op.call { callee := Callee.builtin Builtin.append, args := #[Operand.tmp 35, Operand.tmp 37], argTypes := #[22, 22] }, type := 22, pos := "law.go:95", after := #[{ on := 5, ground := Ground.data }, { on := 7, ground := Ground.data }, { on := 5, ground := Ground.chain }], guard := none }) rfl (fun K hK => ?_) AllReadyH.nil)
        refine step_append_lies _ (by rfl) _ _ _ (by rfl) w4.heap.size 3 ig _ 1 8 Try.underlying22 hig hz0 hz1 hz2 rfl (by omega) _ 0 [] (by rfl) hR5v123 ⟨v121.heap.size, 0, none⟩ 1 1 [.int .i64 t] (by rfl) (by rfl) (World.news_of_block (cs := #[.int .i64 t]) (t := 3) (fr := (0, 0)) bCv123) (by simp [Value.oneCell']) (by omega) (by simp only [maxLen]; omega) (by omega) (hbv123.size) (v123.heap.size) rfl ?_
        intro g8 cap8 v124 hR8v124 hgrow hat hlt
        have hbv124 := hbv123.grown hgrow (hbv123.size) (fun k e => ((hR5v123).lt k e).1)
        have hsv124 := Lib.hid (hgrow.size)
        have hg8 := Lib.hid (show g8 = v120.heap.size ∨ g8 = v123.heap.size from by rcases hat with q | q; (exact .inl (Option.some.inj q).symm); exact .inr q)
        have hl8 := Lib.hid (hR8v124.lt _ rfl).2
        have bDv124 := (bDv123).grown hgrow (fun hq => absurd (show v0.heap.size = v120.heap.size from Option.some.inj hq) (by have a0 := hsv0.out; have a1 := hsv120.out; have a2 := hsv121.out; have a3 := hsv123.out; omega))
        clear hgrow hat
        refine hK.out _ _ ?_ (fun hHeld => ?_)
        · exact HBX.out _ (hb4.trans (hbv124.mono hb4.size))
        clear hK K
        try simp only [Act.put, List.setIfInBounds_toArray, List.set_cons_zero, List.set_cons_succ]
        try simp only [Nat.zero_add]
        refine wpAnyH_take (i := 11) (oi := { dst := some 41, op := Op.build 25 #[(0, Operand.tmp 31), (1, Operand.tmp 38), (2, Operand.tmp 40)], type := 25, pos := "law.go:95", after := #[{ on := 1, ground := Ground.data }, { on := 8, ground := Ground.data }, { on := 10, ground := Ground.data }], guard := none }) (v := ?_) rfl (by kernel_rfl) (by kernel_rfl) (by kernel_rfl) (fun _ _ _ h => h) (Or.inl ⟨by rfl, ?_⟩) (by assumption) ?_
        rotate_left
        · (intro w hSw; (try dsimp only at hSw); go_simp; (try with_reducible rfl))
        try simp only [Act.put, List.setIfInBounds_toArray, List.set_cons_zero, List.set_cons_succ]
        refine wpAnyH_ready (rs := [13]) (by kernel_rfl) (by simp) ?_
        refine (AllReadyH.cons (o := { dst := none, op := Op.store 25 (Operand.tmp 7) (Operand.tmp 41), type := 0, pos := "law.go:95", after := #[{ on := 12, ground := Ground.data }, { on := 11, ground := Ground.data }, { on := 8, ground := Ground.chain }, { on := 0, ground := Ground.phase }, { on := 1, ground := Ground.phase }, { on := 2, ground := Ground.phase }, { on := 3, ground := Ground.phase }, { on := 4, ground := Ground.phase }, { on := 5, ground := Ground.phase }, { on := 6, ground := Ground.phase }, { on := 7, ground := Ground.phase }, { on := 8, ground := Ground.phase }, { on := 9, ground := Ground.phase }, { on := 10, ground := Ground.phase }, { on := 11, ground := Ground.phase }, { on := 12, ground := Ground.phase }], guard := none }) rfl (fun K hK => ?_) AllReadyH.nil)
        obtain ⟨z0, z1, z2⟩ := (bDv124).three
        have f0 := (bDv124).frozen 0
        have f1 := (bDv124).frozen 1
        have f2 := (bDv124).frozen 2
        go_simp
        have hgD := (show w4.heap.size ≤ v0.heap.size from (by have a0 := hsv0.out; have a1 := hsv120.out; have a2 := hsv121.out; have a3 := hsv123.out; have a4 := hsv124.out; have a5 := hg8.out; have a6 := hl8.out; omega))
        have bN : Blk (((v124.setCell ⟨v0.heap.size, 0, none⟩ (.int .i64 ps)).setCell ⟨v0.heap.size, 1, none⟩ (.slice (some ⟨g8, 0, none⟩) 1 cap8)).setCell ⟨v0.heap.size, 2, none⟩ (.slice B xs.length ce)) v0.heap.size 25 #[.int .i64 ps, .slice (some ⟨g8, 0, none⟩) 1 cap8, .slice B xs.length ce] := (((bDv124).set 0 (.int .i64 ps)).set 1 (.slice (some ⟨g8, 0, none⟩) 1 cap8)).set 2 (.slice B xs.length ce)
        have hbN := ((hbv124.setCell (p := ⟨v0.heap.size, 0, none⟩) hgD (.int .i64 ps)).setCell (p := ⟨v0.heap.size, 1, none⟩) hgD (.slice (some ⟨g8, 0, none⟩) 1 cap8)).setCell (p := ⟨v0.heap.size, 2, none⟩) hgD (.slice B xs.length ce)
        have hIN : IRow (((v124.setCell ⟨v0.heap.size, 0, none⟩ (.int .i64 ps)).setCell ⟨v0.heap.size, 1, none⟩ (.slice (some ⟨g8, 0, none⟩) 1 cap8)).setCell ⟨v0.heap.size, 2, none⟩ (.slice B xs.length ce)) (((v124.setCell ⟨v0.heap.size, 0, none⟩ (.int .i64 ps)).setCell ⟨v0.heap.size, 1, none⟩ (.slice (some ⟨g8, 0, none⟩) 1 cap8)).setCell ⟨v0.heap.size, 2, none⟩ (.slice B xs.length ce)).heap.size (some ⟨g8, 0, none⟩) ([] ++ [t]) := row_far3 (row_ints hR8v124 ) (show g8 ≠ v0.heap.size from (by have a0 := hsv0.out; have a1 := hsv120.out; have a2 := hsv121.out; have a3 := hsv123.out; have a4 := hsv124.out; have a5 := hg8.out; have a6 := hl8.out; omega)) _ _ _
        have hcp := own_cap2 hR8v124
        clear z0 z1 z2 f0 f1 f2
        refine hK.out _ _ ?_ (fun hHeld => ?_)
        · exact HBX.out _ (hb4.trans (hbN.mono hb4.size))
        clear hK K
        try simp only [Act.put, List.setIfInBounds_toArray, List.set_cons_zero, List.set_cons_succ]
        refine wpAnyH_done (by kernel_rfl) ?_ _
        refine NoPanic.normal ?_
        have hbF := (hb4.trans (hbN.mono hb4.size))
        have hPN := (HP.out.at hbF).ok q1 q2
        obtain ⟨b0, b1, b2⟩ := HBX.out _ hbF
        obtain ⟨d0, d1, d2⟩ := bN.three
        go_wp2_with (first
          | (go_at_call 12; refine (HCN.out _ _ _ hPN hIN hcp).mono ?_; rintro e w10 ⟨rfl, hb⟩; have hP10 := hPN.at hb; have hI10 := hIN.at hb; have hb10 := hbF.trans (hb.mono hbF.size); have bN10 := bN.below hb bN.lt; obtain ⟨d0, d1, d2⟩ := bN10.three)
          | (go_at_call 19; refine (HON.out _ _ _ hP10 hI10 hcp).mono ?_; rintro e w11 ⟨rfl, hb⟩; have hb11 := hb10.trans (hb.mono hb10.size)))
        go_ret
        exact ⟨ret_true (by simp), hB0.trans (hb11.mono hB0.size)⟩
      · go_simp
        have hbv126 := hbv121.alloc (hbv121.size) (.cells #[.int .i64 t] 3)
        have bCv126 : Blk (v121.alloc (.cells #[.int .i64 t] 3)) v121.heap.size 3 #[.int .i64 t] := Blk.new v121 _ _
        have hsv126 : (v121.alloc (.cells #[.int .i64 t] 3)).heap.size = v121.heap.size + 1 := World.size_alloc _ _
        have bEv126 := (bEv121).alloc (.cells #[.int .i64 t] 3)
        have bDv126 := (bDv121).alloc (.cells #[.int .i64 t] 3)
        refine hK.out _ _ ?_ (fun hHeld => ?_)
        · exact HBX.out _ (hb4.trans (hbv126.mono hb4.size))
        clear hK K
        try simp only [Act.put, List.setIfInBounds_toArray, List.set_cons_zero, List.set_cons_succ]
        obtain ⟨v126, ev126⟩ : ∃ x, v121.alloc (.cells #[.int .i64 t] 3) = x := ⟨_, rfl⟩
        rw [ev126] at hbv126 bCv126 hsv126 bEv126 bDv126 hHeld ⊢
        clear ev126
        replace hsv126 := Lib.hid hsv126
        refine wpAnyH_ready (rs := [5]) (by kernel_rfl) (by simp) ?_
        refine (AllReadyH.cons (o := { dst := some 35, op := Op.call { callee := Callee.builtin Builtin.append, args := #[Operand.tmp 32, Operand.tmp 34], argTypes := #[22, 22] }, type := 22, pos := "law.go:95", after := #[{ on := 2, ground := Ground.data }, { on := 4, ground := Ground.data }], guard := none }) rfl (fun K hK => ?_) AllReadyH.nil)
        refine step_append_nothing rfl _ _ rfl v120.heap.size rfl A c rfl ?_
        refine hK.out _ _ ?_ (fun hHeld => ?_)
        · exact HBX.out _ (hb4.trans (hbv126.mono hb4.size))
        clear hK K
        try simp only [Act.put, List.setIfInBounds_toArray, List.set_cons_zero, List.set_cons_succ]
        have hR5v127 := row0 (base := w4.heap.size) bEv126 (show w4.heap.size ≤ v120.heap.size from (by have a0 := hsv0.out; have a1 := hsv120.out; have a2 := hsv121.out; have a3 := hsv126.out; omega))
        refine wpAnyH_ready (rs := [8]) (by kernel_rfl) (by simp) ?_
        refine (AllReadyH.cons (o := { dst := some 38, op := Op.call { callee := Callee.builtin Builtin.append, args := #[Operand.tmp 35, Operand.tmp 37], argTypes := #[22, 22] }, type := 22, pos := "law.go:95", after := #[{ on := 5, ground := Ground.data }, { on := 7, ground := Ground.data }, { on := 5, ground := Ground.chain }], guard := none }) rfl (fun K hK => ?_) AllReadyH.nil)
        refine step_append_lies _ (by rfl) _ _ _ (by rfl) w4.heap.size 3 ig _ 1 8 Try.underlying22 hig hz0 hz1 hz2 rfl (by omega) _ 0 [] (by rfl) hR5v127 ⟨v121.heap.size, 0, none⟩ 1 1 [.int .i64 t] (by rfl) (by rfl) (World.news_of_block (cs := #[.int .i64 t]) (t := 3) (fr := (0, 0)) bCv126) (by simp [Value.oneCell']) (by omega) (by simp only [maxLen]; omega) (by omega) (hbv126.size) (v126.heap.size) rfl ?_
        intro g8 cap8 v128 hR8v128 hgrow hat hlt
        have hbv128 := hbv126.grown hgrow (hbv126.size) (fun k e => ((hR5v127).lt k e).1)
        have hsv128 := Lib.hid (hgrow.size)
        have hg8 := Lib.hid (show g8 = v120.heap.size ∨ g8 = v126.heap.size from by rcases hat with q | q; (exact .inl (Option.some.inj q).symm); exact .inr q)
        have hl8 := Lib.hid (hR8v128.lt _ rfl).2
        have bDv128 := (bDv126).grown hgrow (fun hq => absurd (show v0.heap.size = v120.heap.size from Option.some.inj hq) (by have a0 := hsv0.out; have a1 := hsv120.out; have a2 := hsv121.out; have a3 := hsv126.out; omega))
        clear hgrow hat
        refine hK.out _ _ ?_ (fun hHeld => ?_)
        · exact HBX.out _ (hb4.trans (hbv128.mono hb4.size))
        clear hK K
        try simp only [Act.put, List.setIfInBounds_toArray, List.set_cons_zero, List.set_cons_succ]
        try simp only [Nat.zero_add]
        refine wpAnyH_take (i := 11) (oi := { dst := some 41, op := Op.build 25 #[(0, Operand.tmp 31), (1, Operand.tmp 38), (2, Operand.tmp 40)], type := 25, pos := "law.go:95", after := #[{ on := 1, ground := Ground.data }, { on := 8, ground := Ground.data }, { on := 10, ground := Ground.data }], guard := none }) (v := ?_) rfl (by kernel_rfl) (by kernel_rfl) (by kernel_rfl) (fun _ _ _ h => h) (Or.inl ⟨by rfl, ?_⟩) (by assumption) ?_
        rotate_left
        · (intro w hSw; (try dsimp only at hSw); go_simp; (try with_reducible rfl))
        try simp only [Act.put, List.setIfInBounds_toArray, List.set_cons_zero, List.set_cons_succ]
        refine wpAnyH_ready (rs := [13]) (by kernel_rfl) (by simp) ?_
        refine (AllReadyH.cons (o := { dst := none, op := Op.store 25 (Operand.tmp 7) (Operand.tmp 41), type := 0, pos := "law.go:95", after := #[{ on := 12, ground := Ground.data }, { on := 11, ground := Ground.data }, { on := 8, ground := Ground.chain }, { on := 0, ground := Ground.phase }, { on := 1, ground := Ground.phase }, { on := 2, ground := Ground.phase }, { on := 3, ground := Ground.phase }, { on := 4, ground := Ground.phase }, { on := 5, ground := Ground.phase }, { on := 6, ground := Ground.phase }, { on := 7, ground := Ground.phase }, { on := 8, ground := Ground.phase }, { on := 9, ground := Ground.phase }, { on := 10, ground := Ground.phase }, { on := 11, ground := Ground.phase }, { on := 12, ground := Ground.phase }], guard := none }) rfl (fun K hK => ?_) AllReadyH.nil)
        obtain ⟨z0, z1, z2⟩ := (bDv128).three
        have f0 := (bDv128).frozen 0
        have f1 := (bDv128).frozen 1
        have f2 := (bDv128).frozen 2
        go_simp
        have hgD := (show w4.heap.size ≤ v0.heap.size from (by have a0 := hsv0.out; have a1 := hsv120.out; have a2 := hsv121.out; have a3 := hsv126.out; have a4 := hsv128.out; have a5 := hg8.out; have a6 := hl8.out; omega))
        have bN : Blk (((v128.setCell ⟨v0.heap.size, 0, none⟩ (.int .i64 ps)).setCell ⟨v0.heap.size, 1, none⟩ (.slice (some ⟨g8, 0, none⟩) 1 cap8)).setCell ⟨v0.heap.size, 2, none⟩ (.slice B xs.length ce)) v0.heap.size 25 #[.int .i64 ps, .slice (some ⟨g8, 0, none⟩) 1 cap8, .slice B xs.length ce] := (((bDv128).set 0 (.int .i64 ps)).set 1 (.slice (some ⟨g8, 0, none⟩) 1 cap8)).set 2 (.slice B xs.length ce)
        have hbN := ((hbv128.setCell (p := ⟨v0.heap.size, 0, none⟩) hgD (.int .i64 ps)).setCell (p := ⟨v0.heap.size, 1, none⟩) hgD (.slice (some ⟨g8, 0, none⟩) 1 cap8)).setCell (p := ⟨v0.heap.size, 2, none⟩) hgD (.slice B xs.length ce)
        have hIN : IRow (((v128.setCell ⟨v0.heap.size, 0, none⟩ (.int .i64 ps)).setCell ⟨v0.heap.size, 1, none⟩ (.slice (some ⟨g8, 0, none⟩) 1 cap8)).setCell ⟨v0.heap.size, 2, none⟩ (.slice B xs.length ce)) (((v128.setCell ⟨v0.heap.size, 0, none⟩ (.int .i64 ps)).setCell ⟨v0.heap.size, 1, none⟩ (.slice (some ⟨g8, 0, none⟩) 1 cap8)).setCell ⟨v0.heap.size, 2, none⟩ (.slice B xs.length ce)).heap.size (some ⟨g8, 0, none⟩) ([] ++ [t]) := row_far3 (row_ints hR8v128 ) (show g8 ≠ v0.heap.size from (by have a0 := hsv0.out; have a1 := hsv120.out; have a2 := hsv121.out; have a3 := hsv126.out; have a4 := hsv128.out; have a5 := hg8.out; have a6 := hl8.out; omega)) _ _ _
        have hcp := own_cap2 hR8v128
        clear z0 z1 z2 f0 f1 f2
        refine hK.out _ _ ?_ (fun hHeld => ?_)
        · exact HBX.out _ (hb4.trans (hbN.mono hb4.size))
        clear hK K
        try simp only [Act.put, List.setIfInBounds_toArray, List.set_cons_zero, List.set_cons_succ]
        refine wpAnyH_done (by kernel_rfl) ?_ _
        refine NoPanic.normal ?_
        have hbF := (hb4.trans (hbN.mono hb4.size))
        have hPN := (HP.out.at hbF).ok q1 q2
        obtain ⟨b0, b1, b2⟩ := HBX.out _ hbF
        obtain ⟨d0, d1, d2⟩ := bN.three
        go_wp2_with (first
          | (go_at_call 12; refine (HCN.out _ _ _ hPN hIN hcp).mono ?_; rintro e w10 ⟨rfl, hb⟩; have hP10 := hPN.at hb; have hI10 := hIN.at hb; have hb10 := hbF.trans (hb.mono hbF.size); have bN10 := bN.below hb bN.lt; obtain ⟨d0, d1, d2⟩ := bN10.three)
          | (go_at_call 19; refine (HON.out _ _ _ hP10 hI10 hcp).mono ?_; rintro e w11 ⟨rfl, hb⟩; have hb11 := hb10.trans (hb.mono hb10.size)))
        go_ret
        exact ⟨ret_true (by simp), hB0.trans (hb11.mono hB0.size)⟩
    · go_simp
      have hbv130 := hbv120.alloc (hbv120.size) (.cells #[.int .i64 t] 3)
      have bCv130 : Blk (v120.alloc (.cells #[.int .i64 t] 3)) v120.heap.size 3 #[.int .i64 t] := Blk.new v120 _ _
      have hsv130 : (v120.alloc (.cells #[.int .i64 t] 3)).heap.size = v120.heap.size + 1 := World.size_alloc _ _
      have bDv130 := (bDv120).alloc (.cells #[.int .i64 t] 3)
      refine hK.out _ _ ?_ (fun hHeld => ?_)
      · exact HBX.out _ (hb4.trans (hbv130.mono hb4.size))
      clear hK K
      try simp only [Act.put, List.setIfInBounds_toArray, List.set_cons_zero, List.set_cons_succ]
      obtain ⟨v130, ev130⟩ : ∃ x, v120.alloc (.cells #[.int .i64 t] 3) = x := ⟨_, rfl⟩
      rw [ev130] at hbv130 bCv130 hsv130 bDv130 hHeld ⊢
      clear ev130
      replace hsv130 := Lib.hid hsv130
      refine wpAnyH_ready (rs := [2]) (by kernel_rfl) (by simp) ?_
      refine (AllReadyH.cons (o := { dst := some 32, op := Op.buildSlice 22 0 #[], type := 22, pos := "law.go:95", after := #[], guard := none }) rfl (fun K hK => ?_) AllReadyH.nil)
      go_simp
      have hbv131 := hbv130.alloc (hbv130.size) (.cells #[] 3)
      have bEv131 : Blk (v130.alloc (.cells #[] 3)) v130.heap.size 3 #[] := Blk.new v130 _ _
      have hsv131 : (v130.alloc (.cells #[] 3)).heap.size = v130.heap.size + 1 := World.size_alloc _ _
      have bCv131 := (bCv130).alloc (.cells #[] 3)
      have bDv131 := (bDv130).alloc (.cells #[] 3)
      refine hK.out _ _ ?_ (fun hHeld => ?_)
      · exact HBX.out _ (hb4.trans (hbv131.mono hb4.size))
      clear hK K
      try simp only [Act.put, List.setIfInBounds_toArray, List.set_cons_zero, List.set_cons_succ]
      obtain ⟨v131, ev131⟩ : ∃ x, v130.alloc (.cells #[] 3) = x := ⟨_, rfl⟩
      rw [ev131] at hbv131 bEv131 hsv131 bCv131 bDv131 hHeld ⊢
      clear ev131
      replace hsv131 := Lib.hid hsv131
      refine wpAnyH_ready (rs := [5]) (by kernel_rfl) (by simp) ?_
      refine (AllReadyH.cons (o := { dst := some 35, op := Op.call { callee := Callee.builtin Builtin.append, args := #[Operand.tmp 32, Operand.tmp 34], argTypes := #[22, 22] }, type := 22, pos := "law.go:95", after := #[{ on := 2, ground := Ground.data }, { on := 4, ground := Ground.data }], guard := none }) rfl (fun K hK => ?_) AllReadyH.nil)
      refine step_append_nothing rfl _ _ rfl v130.heap.size rfl A c rfl ?_
      refine hK.out _ _ ?_ (fun hHeld => ?_)
      · exact HBX.out _ (hb4.trans (hbv131.mono hb4.size))
      clear hK K
      try simp only [Act.put, List.setIfInBounds_toArray, List.set_cons_zero, List.set_cons_succ]
      have hR5v132 := row0 (base := w4.heap.size) bEv131 (show w4.heap.size ≤ v130.heap.size from (by have a0 := hsv0.out; have a1 := hsv120.out; have a2 := hsv130.out; have a3 := hsv131.out; omega))
      refine wpAnyH_ready (rs := [8]) (by kernel_rfl) (by simp) ?_
      refine (AllReadyH.cons (o := { dst := some 38, op := Op.call { callee := Callee.builtin Builtin.append, args := #[Operand.tmp 35, Operand.tmp 37], argTypes := #[22, 22] }, type := 22, pos := "law.go:95", after := #[{ on := 5, ground := Ground.data }, { on := 7, ground := Ground.data }, { on := 5, ground := Ground.chain }], guard := none }) rfl (fun K hK => ?_) AllReadyH.nil)
      refine step_append_lies _ (by rfl) _ _ _ (by rfl) w4.heap.size 3 ig _ 1 8 Try.underlying22 hig hz0 hz1 hz2 rfl (by omega) _ 0 [] (by rfl) hR5v132 ⟨v120.heap.size, 0, none⟩ 1 1 [.int .i64 t] (by rfl) (by rfl) (World.news_of_block (cs := #[.int .i64 t]) (t := 3) (fr := (0, 0)) bCv131) (by simp [Value.oneCell']) (by omega) (by simp only [maxLen]; omega) (by omega) (hbv131.size) (v131.heap.size) rfl ?_
      intro g8 cap8 v133 hR8v133 hgrow hat hlt
      have hbv133 := hbv131.grown hgrow (hbv131.size) (fun k e => ((hR5v132).lt k e).1)
      have hsv133 := Lib.hid (hgrow.size)
      have hg8 := Lib.hid (show g8 = v130.heap.size ∨ g8 = v131.heap.size from by rcases hat with q | q; (exact .inl (Option.some.inj q).symm); exact .inr q)
      have hl8 := Lib.hid (hR8v133.lt _ rfl).2
      have bDv133 := (bDv131).grown hgrow (fun hq => absurd (show v0.heap.size = v130.heap.size from Option.some.inj hq) (by have a0 := hsv0.out; have a1 := hsv120.out; have a2 := hsv130.out; have a3 := hsv131.out; omega))
      clear hgrow hat
      refine hK.out _ _ ?_ (fun hHeld => ?_)
      · exact HBX.out _ (hb4.trans (hbv133.mono hb4.size))
      clear hK K
      try simp only [Act.put, List.setIfInBounds_toArray, List.set_cons_zero, List.set_cons_succ]
      try simp only [Nat.zero_add]
      refine wpAnyH_take (i := 11) (oi := { dst := some 41, op := Op.build 25 #[(0, Operand.tmp 31), (1, Operand.tmp 38), (2, Operand.tmp 40)], type := 25, pos := "law.go:95", after := #[{ on := 1, ground := Ground.data }, { on := 8, ground := Ground.data }, { on := 10, ground := Ground.data }], guard := none }) (v := ?_) rfl (by kernel_rfl) (by kernel_rfl) (by kernel_rfl) (fun _ _ _ h => h) (Or.inl ⟨by rfl, ?_⟩) (by assumption) ?_
      rotate_left
      · (intro w hSw; (try dsimp only at hSw); go_simp; (try with_reducible rfl))
      try simp only [Act.put, List.setIfInBounds_toArray, List.set_cons_zero, List.set_cons_succ]
      refine wpAnyH_ready (rs := [13]) (by kernel_rfl) (by simp) ?_
      refine (AllReadyH.cons (o := { dst := none, op := Op.store 25 (Operand.tmp 7) (Operand.tmp 41), type := 0, pos := "law.go:95", after := #[{ on := 12, ground := Ground.data }, { on := 11, ground := Ground.data }, { on := 8, ground := Ground.chain }, { on := 0, ground := Ground.phase }, { on := 1, ground := Ground.phase }, { on := 2, ground := Ground.phase }, { on := 3, ground := Ground.phase }, { on := 4, ground := Ground.phase }, { on := 5, ground := Ground.phase }, { on := 6, ground := Ground.phase }, { on := 7, ground := Ground.phase }, { on := 8, ground := Ground.phase }, { on := 9, ground := Ground.phase }, { on := 10, ground := Ground.phase }, { on := 11, ground := Ground.phase }, { on := 12, ground := Ground.phase }], guard := none }) rfl (fun K hK => ?_) AllReadyH.nil)
      obtain ⟨z0, z1, z2⟩ := (bDv133).three
      have f0 := (bDv133).frozen 0
      have f1 := (bDv133).frozen 1
      have f2 := (bDv133).frozen 2
      go_simp
      have hgD := (show w4.heap.size ≤ v0.heap.size from (by have a0 := hsv0.out; have a1 := hsv120.out; have a2 := hsv130.out; have a3 := hsv131.out; have a4 := hsv133.out; have a5 := hg8.out; have a6 := hl8.out; omega))
      have bN : Blk (((v133.setCell ⟨v0.heap.size, 0, none⟩ (.int .i64 ps)).setCell ⟨v0.heap.size, 1, none⟩ (.slice (some ⟨g8, 0, none⟩) 1 cap8)).setCell ⟨v0.heap.size, 2, none⟩ (.slice B xs.length ce)) v0.heap.size 25 #[.int .i64 ps, .slice (some ⟨g8, 0, none⟩) 1 cap8, .slice B xs.length ce] := (((bDv133).set 0 (.int .i64 ps)).set 1 (.slice (some ⟨g8, 0, none⟩) 1 cap8)).set 2 (.slice B xs.length ce)
      have hbN := ((hbv133.setCell (p := ⟨v0.heap.size, 0, none⟩) hgD (.int .i64 ps)).setCell (p := ⟨v0.heap.size, 1, none⟩) hgD (.slice (some ⟨g8, 0, none⟩) 1 cap8)).setCell (p := ⟨v0.heap.size, 2, none⟩) hgD (.slice B xs.length ce)
      have hIN : IRow (((v133.setCell ⟨v0.heap.size, 0, none⟩ (.int .i64 ps)).setCell ⟨v0.heap.size, 1, none⟩ (.slice (some ⟨g8, 0, none⟩) 1 cap8)).setCell ⟨v0.heap.size, 2, none⟩ (.slice B xs.length ce)) (((v133.setCell ⟨v0.heap.size, 0, none⟩ (.int .i64 ps)).setCell ⟨v0.heap.size, 1, none⟩ (.slice (some ⟨g8, 0, none⟩) 1 cap8)).setCell ⟨v0.heap.size, 2, none⟩ (.slice B xs.length ce)).heap.size (some ⟨g8, 0, none⟩) ([] ++ [t]) := row_far3 (row_ints hR8v133 ) (show g8 ≠ v0.heap.size from (by have a0 := hsv0.out; have a1 := hsv120.out; have a2 := hsv130.out; have a3 := hsv131.out; have a4 := hsv133.out; have a5 := hg8.out; have a6 := hl8.out; omega)) _ _ _
      have hcp := own_cap2 hR8v133
      clear z0 z1 z2 f0 f1 f2
      refine hK.out _ _ ?_ (fun hHeld => ?_)
      · exact HBX.out _ (hb4.trans (hbN.mono hb4.size))
      clear hK K
      try simp only [Act.put, List.setIfInBounds_toArray, List.set_cons_zero, List.set_cons_succ]
      refine wpAnyH_done (by kernel_rfl) ?_ _
      refine NoPanic.normal ?_
      have hbF := (hb4.trans (hbN.mono hb4.size))
      have hPN := (HP.out.at hbF).ok q1 q2
      obtain ⟨b0, b1, b2⟩ := HBX.out _ hbF
      obtain ⟨d0, d1, d2⟩ := bN.three
      go_wp2_with (first
        | (go_at_call 12; refine (HCN.out _ _ _ hPN hIN hcp).mono ?_; rintro e w10 ⟨rfl, hb⟩; have hP10 := hPN.at hb; have hI10 := hIN.at hb; have hb10 := hbF.trans (hb.mono hbF.size); have bN10 := bN.below hb bN.lt; obtain ⟨d0, d1, d2⟩ := bN10.three)
        | (go_at_call 19; refine (HON.out _ _ _ hP10 hI10 hcp).mono ?_; rintro e w11 ⟨rfl, hb⟩; have hb11 := hb10.trans (hb.mono hb10.size)))
      go_ret
      exact ⟨ret_true (by simp), hB0.trans (hb11.mono hB0.size)⟩

end Go.Proofs.Yteknfglfbkknaaa.Kinds
