/-
  The laws of layer 9, walked on what the package's functions come to: a part of the same kind and tag instead, put in.
-/
import Derived.Test.YteknfglfbkknaaaKindsLawF
namespace Go.Proofs.Yteknfglfbkknaaa.Kinds
open Go.RowKit Mem _root_.Go.Proofs.Yteknfglfbkknaaa.Arena
set_option linter.unusedVariables false
set_option linter.unusedSimpArgs false
attribute [local go_sem ↓] Go.wp_at_zero Go.wp_at_succ

/-- A row of nodes lies elsewhere than a program's box. -/
theorem nodes_far {w : World} {B : Nat} {R : Option Addr} {l : List Nd} {g : Nat} {T : TypeId} {u : Int} {a1 a2 : Option Addr} {n1 c1 n2 c2 : Nat} (h : Nodes w B R l) (hz : Blk w g T #[.int .i64 u, .slice a1 n1 c1, .slice a2 n2 c2]) (i : Nat) (v : Value) :
    Nodes (w.setCell ⟨g, i, none⟩ v) B R l := by
  intro j x hx
  obtain ⟨ad, e, hlt, q0, q1⟩ := h j x hx
  have hb := add_blockN ad (j * 2)
  have hne : ad.block ≠ g := by
    intro hg
    rw [hb, hg, hz.cell] at q1
    match ho : (ad.add (j * 2)).off, q1 with
    | 0, q1 => simp at q1
    | 1, q1 => simp at q1
    | o + 2, q1 => simp at q1
  refine ⟨ad, e, hlt, (World.cell?_of_block ?_).trans q0, (World.cell?_of_block ?_).trans q1⟩
  · rw [hb]; exact Below.heap_setCell _ _ _ _ hne
  · show (w.setCell ⟨g, i, none⟩ v).heap[(ad.add (j * 2)).block]? = w.heap[(ad.add (j * 2)).block]?
    rw [hb]; exact Below.heap_setCell _ _ _ _ hne
theorem size_set (w : World) (p : Addr) (v : Value) : (w.setCell p v).heap.size = w.heap.size := by simp [World.setCell]

set_option maxRecDepth 100000 in
set_option maxHeartbeats 8000000 in
theorem replaced_all (C : Pkg) (ps : Int) (A : Option Addr) (c : Nat) (vs : List Int) (ad : Addr) (ce : Nat) (xs : List Nd) (k n : Nat) (ad2 : Addr) (c2 : Nat) (ms : List Nd) (hcap2 : ms.length ≤ c2) (hA2 : (some ad2 : Option Addr) = none → c2 = 0) (w : World) (hp : Prg.In ⟨ps, A, c, vs, some ad, ce, xs⟩ w) (hm : Nodes w w.heap.size (some ad2) ms)
    (hf : fewB (⟨ps, A, c, vs, some ad, ce, xs⟩ : Prg) = true) (hl : ms.length ≤ 60) (hc : pcheck ps vs xs = 0) (hk : k < xs.length) (hs : scan 1 (xs.drop k) = some n) (he : aend ms 0 = ms.length) (hz : okind vs ms 0 = okind vs xs k) (t1 n1 t2 n2 : Int) (hx0 : ms[0]? = some (t1, n1)) (hxk : xs[k]? = some (t2, n2)) (ht : t1 = t2) :
    Calls Try.prog 6 #[.agg #[.int .i64 ps, .slice A vs.length c, .slice (some ad) xs.length ce], .int .i64 (k : Int), .slice (some ad2) ms.length c2] w fun e w' => e = .returned (.bool true) ∧ Below w.heap.size w w' := by
  have hB0 : Below w.heap.size w (w.alloc (.cells #[.int .i64 ps, .slice A vs.length c, .slice (some ad) xs.length ce] 25)) := (Below.refl _ _).alloc (Nat.le_refl _) _
  have bX := Blk.new w 25 #[.int .i64 ps, .slice A vs.length c, .slice (some ad) xs.length ce]
  have HP := Lib.hid (hp.at hB0)
  have hgl := bX.lt
  have HBX := Lib.hid (fun W (h : Below (w.alloc (.cells #[.int .i64 ps, .slice A vs.length c, .slice (some ad) xs.length ce] 25)).heap.size (w.alloc (.cells #[.int .i64 ps, .slice A vs.length c, .slice (some ad) xs.length ce] 25)) W) => (bX.below h hgl).three)
  have HW := Lib.hid (fun W => works_any C W)
  have HF := Lib.hid (fun W => show Calls Try.prog 10 #[.agg #[.int .i64 ps, .slice A vs.length c, .slice (some ad) xs.length ce]] W (fun e w' => e = .returned (.bool (fewB (⟨ps, A, c, vs, some ad, ce, xs⟩ : Prg))) ∧ Below W.heap.size W w') from ref_Few_any (⟨ps, A, c, vs, some ad, ce, xs⟩ : Prg) W)
  have HCK := Lib.hid (fun W (h : (⟨ps, A, c, vs, some ad, ce, xs⟩ : Prg).Ok W) => show Calls Try.prog 12 #[.agg #[.int .i64 ps, .slice A vs.length c, .slice (some ad) xs.length ce]] W (fun e w' => e = .returned (.int .i64 (pcheck ps vs xs)) ∧ Below W.heap.size W w') from C.check (⟨ps, A, c, vs, some ad, ce, xs⟩ : Prg) W h)
  have HM := Lib.hid (hm.at hB0)
  obtain ⟨b0, b1, b2⟩ := HBX.out _ (Below.refl _ _)
  obtain ⟨q1, q2⟩ := few_ok hf
  simp only at q1 q2
  rw [hf] at HF
  rw [hc] at HCK
  have i0 : (ms.length : Int) ≤ 60 := by omega
  have i1 : ¬ (xs.length : Int) ≤ (k : Int) := by omega
  have j2 : (0 : Int) ≤ (k : Int) := by omega
  have j4 : ¬ (k : Int) < 0 := by omega
  have j3 : (k : Int) < (xs.length : Int) := by omega
  have HE := Lib.hid (fun W (h : Nodes W W.heap.size (some ad2) ms) => End_any (some ad2) c2 ms 0 W h (by omega))
  have HOW := Lib.hid (fun W (h : (⟨ps, A, c, vs, some ad, ce, xs⟩ : Prg).Ok W) (h' : Nodes W W.heap.size (some ad2) ms) => show Calls Try.prog 19 #[.agg #[.int .i64 ps, .slice A vs.length c, .slice (some ad2) ms.length c2], .int .i64 0] W (fun e w' => e = .returned (.int .i64 (okind vs ms 0)) ∧ Below W.heap.size W w') from
    C.of ⟨ps, A, c, vs, some ad2, c2, ms⟩ 0 W ⟨h.vars, h', h.lv, by show ms.length ≤ 1000000; omega, h.cv, hcap2, h.nv, hA2⟩)
  have HOP := Lib.hid (fun W (h : (⟨ps, A, c, vs, some ad, ce, xs⟩ : Prg).Ok W) => show Calls Try.prog 19 #[.agg #[.int .i64 ps, .slice A vs.length c, .slice (some ad) xs.length ce], .int .i64 (k : Int)] W (fun e w' => e = .returned (.int .i64 (okind vs xs (k : Int))) ∧ Below W.heap.size W w') from C.of (⟨ps, A, c, vs, some ad, ce, xs⟩ : Prg) k W h)
  rw [he] at HE
  have e3 : ((ms.length : Int) != (ms.length : Int)) = false := by simp
  have HT1 := Lib.hid (fun W (h : Nodes W W.heap.size (some ad2) ms) => show W.cell? ad2 = some (.int .i64 t1) from by
    obtain ⟨ad', q, -, q1, -⟩ := h 0 _ hx0
    cases q
    simpa [Addr.add] using q1)
  have HT2 := Lib.hid (fun W (h : Nodes W W.heap.size (some ad) xs) => show W.cell? (ad.add (k * 2)) = some (.int .i64 t2) from by
    obtain ⟨ad', q, -, q1, -⟩ := h k _ hxk
    cases q
    exact q1)
  have hmsN : 0 < ms.length := (List.getElem?_eq_some_iff.1 hx0).1
  have hms : (0 : Int) < (ms.length : Int) := by omega
  subst ht
  have e5 : (t1 != t1) = false := by simp
  have ho1 : otag ms 0 = t1 := by unfold otag; rw [show (0 : Int).toNat = 0 from rfl, List.getD_eq_getElem?_getD, hx0]; rfl
  have ho2 : otag xs (k : Int) = t1 := by unfold otag; rw [Int.toNat_natCast, List.getD_eq_getElem?_getD, hxk]; rfl
  have hxl : xs.length ≤ 60 := by
    unfold fewB at hf
    rw [Bool.and_eq_true, decide_eq_true_eq] at hf
    exact hf.1
  obtain ⟨r1, r2, r3⟩ := pcheck_rep hc hxl hs (whole_end he) hl hz (by rw [ho1, ho2])
  have HRE := Lib.hid (fun W (h : (⟨ps, A, c, vs, some ad, ce, xs⟩ : Prg).Ok W) (h' : Nodes W W.heap.size (some ad2) ms) => Replace_any (some ad) ce xs (k : Int) (some ad2) c2 ms W h.body h.nb h.ce q2 h' hA2 (by omega))
  have HCN := Lib.hid (fun A5 c5 W (h : (⟨ps, A, c, vs, some ad, ce, xs⟩ : Prg).Ok W) (h1 : (arep xs (k : Int) ms).length ≤ c5) (h2 : A5 = none → c5 = 0) (h3 : Nodes W W.heap.size A5 (arep xs (k : Int) ms)) =>
    show Calls Try.prog 12 #[.agg #[.int .i64 ps, .slice A vs.length c, .slice A5 (arep xs (k : Int) ms).length c5]] W (fun e w' => e = .returned (.int .i64 (if 30 < adep (arep xs (k : Int) ms) 0 then 13 else 0)) ∧ Below W.heap.size W w') from by
      have q := C.check ⟨ps, A, c, vs, A5, c5, arep xs (k : Int) ms⟩ W ⟨h.vars, h3, h.lv, by show (arep xs (k : Int) ms).length ≤ 1000000; omega, h.cv, h1, h.nv, h2⟩
      rw [show pcheck ps vs (arep xs (k : Int) ms) = _ from r2] at q
      exact q)
  have HON := Lib.hid (fun A5 c5 W (h : (⟨ps, A, c, vs, some ad, ce, xs⟩ : Prg).Ok W) (h1 : (arep xs (k : Int) ms).length ≤ c5) (h2 : A5 = none → c5 = 0) (h3 : Nodes W W.heap.size A5 (arep xs (k : Int) ms)) =>
    show Calls Try.prog 19 #[.agg #[.int .i64 ps, .slice A vs.length c, .slice A5 (arep xs (k : Int) ms).length c5], .int .i64 0] W (fun e w' => e = .returned (.int .i64 2) ∧ Below W.heap.size W w') from by
      have q := C.of ⟨ps, A, c, vs, A5, c5, arep xs (k : Int) ms⟩ 0 W ⟨h.vars, h3, h.lv, by show (arep xs (k : Int) ms).length ≤ 1000000; omega, h.cv, h1, h.nv, h2⟩
      rw [show okind vs (arep xs (k : Int) ms) 0 = 2 from r1] at q
      exact q)
  have HDN := Lib.hid (fun A5 c5 W (h3 : Nodes W W.heap.size A5 (arep xs (k : Int) ms)) => Depth_any A5 c5 (arep xs (k : Int) ms) 0 W h3 (by omega))
  obtain ⟨RR, hRR⟩ : ∃ RR, arep xs (k : Int) ms = RR := ⟨_, rfl⟩
  rw [hRR] at HRE HCN HON HDN
  obtain ⟨dd, hdd⟩ : ∃ dd, adep RR 0 = dd := ⟨_, rfl⟩
  rw [hdd] at HCN HDN
  rw [hz] at HOW
  generalize okind vs xs (k : Int) = z1 at *
  have e4 : (z1 != z1) = false := by simp
  clear he hc hf hl hk hs hz r1 r2 ho1 ho2 hRR hdd
  clear hp bX hm
  go_enter Try.func6, Try.ntmps6
  go_wp2_with (first
    | (go_at_call 9; refine (HW.out _).mono ?_; rintro e w2 ⟨rfl, hb2⟩; obtain ⟨b0, b1, b2⟩ := HBX.out _ hb2)
    | (go_at_call 10; refine (HF.out _).mono ?_; rintro e w3 ⟨rfl, hb⟩; have hb3 := hb2.trans (hb.mono hb2.size); obtain ⟨b0, b1, b2⟩ := HBX.out _ hb3)
    | (go_at_call 12; have hP3 := (HP.out.at hb3).ok q1 q2; refine (HCK.out _ hP3).mono ?_; rintro e w4 ⟨rfl, hb⟩; have hP4 := hP3.at hb; have hb4 := hb3.trans (hb.mono hb3.size); obtain ⟨b0, b1, b2⟩ := HBX.out _ hb4))
  have hM4 := HM.out.at hb4
  have bW := Blk.new w4 25 #[.int .i64 ps, .slice A vs.length c, .slice (some ad2) ms.length c2]
  have hba := (hb4.alloc hb4.size (.cells #[.int .i64 ps, .slice A vs.length c, .slice (some ad2) ms.length c2] 25)).drew
  have hPd := (HP.out.at hba).ok q1 q2
  have hMd := HM.out.at hba
  obtain ⟨b0, b1, b2⟩ := HBX.out _ hba
  obtain ⟨c0, c1, c3⟩ := bW.three
  have g1 := HT1.out _ hMd
  have g2 := HT2.out _ hPd.body
  have hC := And.intro b0 (And.intro b1 (And.intro b2 (And.intro c0 (And.intro c1 (And.intro c3 (And.intro g1 g2))))))
  refine wp_region_noPanic ?_
  refine wp_region_held_drew (S := (fun w' => w'.cell? ⟨w.heap.size, 0, none⟩ = some (.int .i64 ps) ∧ w'.cell? ⟨w.heap.size, 1, none⟩ = some (.slice A vs.length c) ∧ w'.cell? ⟨w.heap.size, 2, none⟩ = some (.slice (some ad) xs.length ce) ∧ w'.cell? ⟨w4.heap.size, 0, none⟩ = some (.int .i64 ps) ∧ w'.cell? ⟨w4.heap.size, 1, none⟩ = some (.slice A vs.length c) ∧ w'.cell? ⟨w4.heap.size, 2, none⟩ = some (.slice (some ad2) ms.length c2) ∧ w'.cell? ad2 = some (.int .i64 t1) ∧ w'.cell? (ad.add (k * 2)) = some (.int .i64 t1))) (by kernel_rfl) hC (fun hHeld => ?_)
  refine wpAnyH_take (i := 0) (oi := { dst := some 47, op := Op.move (Operand.tmp 2), type := 23, pos := "law.go:77", after := #[], guard := none }) (v := ?_) rfl (by kernel_rfl) (by kernel_rfl) (by kernel_rfl) (fun _ _ _ h => h) (Or.inl ⟨by rfl, ?_⟩) (by assumption) ?_
  rotate_left
  · (intro w hSw; (try dsimp only at hSw); go_simp; (try with_reducible rfl))
  try simp only [Act.put, List.setIfInBounds_toArray, List.set_cons_zero, List.set_cons_succ]
  refine wpAnyH_take (i := 2) (oi := { dst := some 49, op := Op.move (Operand.tmp 2), type := 23, pos := "law.go:77", after := #[], guard := none }) (v := ?_) rfl (by kernel_rfl) (by kernel_rfl) (by kernel_rfl) (fun _ _ _ h => h) (Or.inl ⟨by rfl, ?_⟩) (by assumption) ?_
  rotate_left
  · (intro w hSw; (try dsimp only at hSw); go_simp; (try with_reducible rfl))
  try simp only [Act.put, List.setIfInBounds_toArray, List.set_cons_zero, List.set_cons_succ]
  refine wpAnyH_take (i := 3) (oi := { dst := some 50, op := Op.call { callee := Callee.builtin Builtin.len, args := #[Operand.tmp 49], argTypes := #[23] }, type := 3, pos := "law.go:77", after := #[{ on := 2, ground := Ground.data }], guard := none }) (v := ?_) rfl (by kernel_rfl) (by kernel_rfl) (by kernel_rfl) (fun _ _ _ h => h) (Or.inl ⟨by rfl, ?_⟩) (by assumption) ?_
  rotate_left
  · (intro w hSw; (try dsimp only at hSw); go_simp; (try with_reducible rfl))
  try simp only [Act.put, List.setIfInBounds_toArray, List.set_cons_zero, List.set_cons_succ]
  refine wpAnyH_ready (rs := [1]) (by kernel_rfl) (by simp) ?_
  refine AllReadyH.cons (o := { dst := some 48, op := Op.call { callee := Callee.value (Operand.func 23), args := #[Operand.tmp 47, Operand.const (Value.int IntKind.i64 0)], argTypes := #[23, 3] }, type := 3, pos := "law.go:77", after := #[{ on := 0, ground := Ground.data }], guard := none }) rfl (fun K hK => ?_) AllReadyH.nil
  go_simp
  go_at_call 23
  refine (HE.out _ hMd).mono ?_
  rintro e w5 ⟨rfl, hb⟩
  have hP5 := hPd.at hb
  have hM5 := hMd.at hb
  have hb5 := hba.trans (hb.mono hba.size)
  have bW5 := (bW.drew).below hb bW.lt
  obtain ⟨b0, b1, b2⟩ := HBX.out _ hb5
  obtain ⟨c0, c1, c3⟩ := bW5.three
  have g1 := HT1.out _ hM5
  have g2 := HT2.out _ hP5.body
  have hC := And.intro b0 (And.intro b1 (And.intro b2 (And.intro c0 (And.intro c1 (And.intro c3 (And.intro g1 g2))))))
  try go_wp2_with fail
  refine hK.out _ _ ?_ (fun hHeld => ?_)
  · exact hC
  clear hK K
  try simp only [Act.put, List.setIfInBounds_toArray, List.set_cons_zero, List.set_cons_succ]
  refine wpAnyH_take (i := 4) (oi := { dst := some 51, op := Op.binOp BinOp.neq 3 (Operand.tmp 48) (Operand.tmp 50) 3, type := 4, pos := "law.go:77", after := #[{ on := 1, ground := Ground.data }, { on := 3, ground := Ground.data }], guard := none }) (v := ?_) rfl (by kernel_rfl) (by kernel_rfl) (by kernel_rfl) (fun _ _ _ h => h) (Or.inl ⟨by rfl, ?_⟩) (by assumption) ?_
  rotate_left
  · (intro w hSw; (try dsimp only at hSw); go_simp; (try with_reducible rfl))
  try simp only [Act.put, List.setIfInBounds_toArray, List.set_cons_zero, List.set_cons_succ]
  refine wpAnyH_take (i := 5) (oi := { dst := some 52, op := Op.move (Operand.tmp 51), type := 4, pos := "law.go:77", after := #[{ on := 4, ground := Ground.data }, { on := 1, ground := Ground.chain }], guard := none }) (v := ?_) rfl (by kernel_rfl) (by kernel_rfl) (by kernel_rfl) (fun _ _ _ h => h) (Or.inl ⟨by rfl, ?_⟩) (by assumption) ?_
  rotate_left
  · (intro w hSw; (try dsimp only at hSw); go_simp; (try with_reducible rfl))
  try simp only [Act.put, List.setIfInBounds_toArray, List.set_cons_zero, List.set_cons_succ]
  refine wpAnyH_take (i := 6) (oi := { dst := some 53, op := Op.load 25 (Operand.tmp 9), type := 25, pos := "law.go:77", after := #[{ on := 5, ground := Ground.guard }], guard := some (5, false) }) (v := ?_) rfl (by kernel_rfl) (by kernel_rfl) (by kernel_rfl) (fun _ _ _ h => h) (Or.inl ⟨by rfl, ?_⟩) (by assumption) ?_
  rotate_left
  · (intro w hSw; (try dsimp only at hSw); go_simp; (try with_reducible rfl))
  try simp only [Act.put, List.setIfInBounds_toArray, List.set_cons_zero, List.set_cons_succ]
  refine wpAnyH_take (i := 8) (oi := { dst := some 55, op := Op.load 25 (Operand.tmp 3), type := 25, pos := "law.go:77", after := #[{ on := 5, ground := Ground.guard }], guard := some (5, false) }) (v := ?_) rfl (by kernel_rfl) (by kernel_rfl) (by kernel_rfl) (fun _ _ _ h => h) (Or.inl ⟨by rfl, ?_⟩) (by assumption) ?_
  rotate_left
  · (intro w hSw; (try dsimp only at hSw); go_simp; (try with_reducible rfl))
  try simp only [Act.put, List.setIfInBounds_toArray, List.set_cons_zero, List.set_cons_succ]
  refine wpAnyH_take (i := 9) (oi := { dst := some 56, op := Op.move (Operand.tmp 1), type := 3, pos := "law.go:77", after := #[{ on := 5, ground := Ground.guard }], guard := some (5, false) }) (v := ?_) rfl (by kernel_rfl) (by kernel_rfl) (by kernel_rfl) (fun _ _ _ h => h) (Or.inl ⟨by rfl, ?_⟩) (by assumption) ?_
  rotate_left
  · (intro w hSw; (try dsimp only at hSw); go_simp; (try with_reducible rfl))
  try simp only [Act.put, List.setIfInBounds_toArray, List.set_cons_zero, List.set_cons_succ]
  refine wpAnyH_ready (rs := [7]) (by kernel_rfl) (by simp) ?_
  refine AllReadyH.cons (o := { dst := some 54, op := Op.call { callee := Callee.value (Operand.func 19), args := #[Operand.tmp 53, Operand.const (Value.int IntKind.i64 0)], argTypes := #[25, 3] }, type := 3, pos := "law.go:77", after := #[{ on := 6, ground := Ground.data }, { on := 5, ground := Ground.chain }, { on := 5, ground := Ground.guard }], guard := some (5, false) }) rfl (fun K hK => ?_) AllReadyH.nil
  go_simp
  go_at_call 19
  refine (HOW.out _ hP5 hM5).mono ?_
  rintro e w6 ⟨rfl, hb⟩
  have hP6 := hP5.at hb
  have hM6 := hM5.at hb
  have hb6 := hb5.trans (hb.mono hb5.size)
  have bW6 := bW5.below hb bW5.lt
  obtain ⟨b0, b1, b2⟩ := HBX.out _ hb6
  obtain ⟨c0, c1, c3⟩ := bW6.three
  have g1 := HT1.out _ hM6
  have g2 := HT2.out _ hP6.body
  have hC := And.intro b0 (And.intro b1 (And.intro b2 (And.intro c0 (And.intro c1 (And.intro c3 (And.intro g1 g2))))))
  try go_wp2_with fail
  refine hK.out _ _ ?_ (fun hHeld => ?_)
  · exact hC
  clear hK K
  try simp only [Act.put, List.setIfInBounds_toArray, List.set_cons_zero, List.set_cons_succ]
  refine wpAnyH_ready (rs := [10]) (by kernel_rfl) (by simp) ?_
  refine AllReadyH.cons (o := { dst := some 57, op := Op.call { callee := Callee.value (Operand.func 19), args := #[Operand.tmp 55, Operand.tmp 56], argTypes := #[25, 3] }, type := 3, pos := "law.go:77", after := #[{ on := 8, ground := Ground.data }, { on := 9, ground := Ground.data }, { on := 7, ground := Ground.chain }, { on := 5, ground := Ground.guard }], guard := some (5, false) }) rfl (fun K hK => ?_) AllReadyH.nil
  go_simp
  go_at_call 19
  refine (HOP.out _ hP6).mono ?_
  rintro e w7 ⟨rfl, hb⟩
  have hP7 := hP6.at hb
  have hM7 := hM6.at hb
  have hb7 := hb6.trans (hb.mono hb6.size)
  have bW7 := bW6.below hb bW6.lt
  obtain ⟨b0, b1, b2⟩ := HBX.out _ hb7
  obtain ⟨c0, c1, c3⟩ := bW7.three
  have g1 := HT1.out _ hM7
  have g2 := HT2.out _ hP7.body
  have hC := And.intro b0 (And.intro b1 (And.intro b2 (And.intro c0 (And.intro c1 (And.intro c3 (And.intro g1 g2))))))
  try go_wp2_with fail
  refine hK.out _ _ ?_ (fun hHeld => ?_)
  · exact hC
  clear hK K
  try simp only [Act.put, List.setIfInBounds_toArray, List.set_cons_zero, List.set_cons_succ]
  refine wpAnyH_take (i := 11) (oi := { dst := some 58, op := Op.binOp BinOp.neq 3 (Operand.tmp 54) (Operand.tmp 57) 3, type := 4, pos := "law.go:77", after := #[{ on := 7, ground := Ground.data }, { on := 10, ground := Ground.data }, { on := 5, ground := Ground.guard }], guard := some (5, false) }) (v := ?_) rfl (by kernel_rfl) (by kernel_rfl) (by kernel_rfl) (fun _ _ _ h => h) (Or.inl ⟨by rfl, ?_⟩) (by assumption) ?_
  rotate_left
  · (intro w hSw; (try dsimp only at hSw); go_simp; (try with_reducible rfl))
  try simp only [Act.put, List.setIfInBounds_toArray, List.set_cons_zero, List.set_cons_succ]
  refine wpAnyH_take (i := 12) (oi := { dst := some 59, op := Op.pick (Operand.tmp 52) (Operand.const (Value.bool true)) (Operand.tmp 58), type := 4, pos := "law.go:77", after := #[{ on := 5, ground := Ground.data }, { on := 11, ground := Ground.data }], guard := none }) (v := ?_) rfl (by kernel_rfl) (by kernel_rfl) (by kernel_rfl) (fun _ _ _ h => h) (Or.inl ⟨by rfl, ?_⟩) (by assumption) ?_
  rotate_left
  · (intro w hSw; (try dsimp only at hSw); go_simp; (try with_reducible rfl))
  try simp only [Act.put, List.setIfInBounds_toArray, List.set_cons_zero, List.set_cons_succ]
  refine wpAnyH_take (i := 13) (oi := { dst := some 60, op := Op.move (Operand.tmp 59), type := 4, pos := "law.go:77", after := #[{ on := 12, ground := Ground.data }, { on := 10, ground := Ground.chain }], guard := none }) (v := ?_) rfl (by kernel_rfl) (by kernel_rfl) (by kernel_rfl) (fun _ _ _ h => h) (Or.inl ⟨by rfl, ?_⟩) (by assumption) ?_
  rotate_left
  · (intro w hSw; (try dsimp only at hSw); go_simp; (try with_reducible rfl))
  try simp only [Act.put, List.setIfInBounds_toArray, List.set_cons_zero, List.set_cons_succ]
  refine wpAnyH_take (i := 14) (oi := { dst := some 61, op := Op.move (Operand.tmp 2), type := 23, pos := "law.go:77", after := #[{ on := 13, ground := Ground.guard }], guard := some (13, false) }) (v := ?_) rfl (by kernel_rfl) (by kernel_rfl) (by kernel_rfl) (fun _ _ _ h => h) (Or.inl ⟨by rfl, ?_⟩) (by assumption) ?_
  rotate_left
  · (intro w hSw; (try dsimp only at hSw); go_simp; (try with_reducible rfl))
  try simp only [Act.put, List.setIfInBounds_toArray, List.set_cons_zero, List.set_cons_succ]
  refine wpAnyH_take (i := 15) (oi := { dst := some 62, op := Op.indexAddr 23 (Operand.tmp 61) (Operand.const (Value.int IntKind.i64 0)), type := 0, pos := "law.go:77", after := #[{ on := 14, ground := Ground.data }, { on := 13, ground := Ground.guard }], guard := some (13, false) }) (v := ?_) rfl (by kernel_rfl) (by kernel_rfl) (by kernel_rfl) (fun _ _ _ h => h) (Or.inl ⟨by rfl, ?_⟩) (by assumption) ?_
  rotate_left
  · (intro w hSw; (try dsimp only at hSw); go_simp; (try with_reducible rfl))
  try simp only [Act.put, List.setIfInBounds_toArray, List.set_cons_zero, List.set_cons_succ]
  refine wpAnyH_take (i := 16) (oi := { dst := some 63, op := Op.fieldAddr 39 (Operand.tmp 62) 0, type := 0, pos := "law.go:77", after := #[{ on := 15, ground := Ground.data }, { on := 13, ground := Ground.guard }], guard := some (13, false) }) (v := ?_) rfl (by kernel_rfl) (by kernel_rfl) (by kernel_rfl) (fun _ _ _ h => h) (Or.inl ⟨by rfl, ?_⟩) (by assumption) ?_
  rotate_left
  · (intro w hSw; (try dsimp only at hSw); go_simp; (try with_reducible rfl))
  try simp only [Act.put, List.setIfInBounds_toArray, List.set_cons_zero, List.set_cons_succ]
  refine wpAnyH_take (i := 17) (oi := { dst := some 64, op := Op.load 3 (Operand.tmp 63), type := 3, pos := "law.go:77", after := #[{ on := 16, ground := Ground.data }, { on := 13, ground := Ground.guard }], guard := some (13, false) }) (v := ?_) rfl (by kernel_rfl) (by kernel_rfl) (by kernel_rfl) (fun _ _ _ h => h) (Or.inl ⟨by rfl, ?_⟩) (by assumption) ?_
  rotate_left
  · (intro w hSw; (try dsimp only at hSw); go_simp; (try with_reducible rfl))
  try simp only [Act.put, List.setIfInBounds_toArray, List.set_cons_zero, List.set_cons_succ]
  refine wpAnyH_take (i := 18) (oi := { dst := some 65, op := Op.fieldAddr 25 (Operand.tmp 3) 2, type := 0, pos := "law.go:77", after := #[{ on := 13, ground := Ground.guard }], guard := some (13, false) }) (v := ?_) rfl (by kernel_rfl) (by kernel_rfl) (by kernel_rfl) (fun _ _ _ h => h) (Or.inl ⟨by rfl, ?_⟩) (by assumption) ?_
  rotate_left
  · (intro w hSw; (try dsimp only at hSw); go_simp; (try with_reducible rfl))
  try simp only [Act.put, List.setIfInBounds_toArray, List.set_cons_zero, List.set_cons_succ]
  refine wpAnyH_take (i := 19) (oi := { dst := some 66, op := Op.load 23 (Operand.tmp 65), type := 23, pos := "law.go:77", after := #[{ on := 18, ground := Ground.data }, { on := 13, ground := Ground.guard }], guard := some (13, false) }) (v := ?_) rfl (by kernel_rfl) (by kernel_rfl) (by kernel_rfl) (fun _ _ _ h => h) (Or.inl ⟨by rfl, ?_⟩) (by assumption) ?_
  rotate_left
  · (intro w hSw; (try dsimp only at hSw); go_simp; (try with_reducible rfl))
  try simp only [Act.put, List.setIfInBounds_toArray, List.set_cons_zero, List.set_cons_succ]
  refine wpAnyH_take (i := 20) (oi := { dst := some 67, op := Op.move (Operand.tmp 1), type := 3, pos := "law.go:77", after := #[{ on := 13, ground := Ground.guard }], guard := some (13, false) }) (v := ?_) rfl (by kernel_rfl) (by kernel_rfl) (by kernel_rfl) (fun _ _ _ h => h) (Or.inl ⟨by rfl, ?_⟩) (by assumption) ?_
  rotate_left
  · (intro w hSw; (try dsimp only at hSw); go_simp; (try with_reducible rfl))
  try simp only [Act.put, List.setIfInBounds_toArray, List.set_cons_zero, List.set_cons_succ]
  refine wpAnyH_take (i := 21) (oi := { dst := some 68, op := Op.indexAddr 23 (Operand.tmp 66) (Operand.tmp 67), type := 0, pos := "law.go:77", after := #[{ on := 19, ground := Ground.data }, { on := 20, ground := Ground.data }, { on := 13, ground := Ground.guard }], guard := some (13, false) }) (v := ?_) rfl (by kernel_rfl) (by kernel_rfl) (by kernel_rfl) (fun _ _ _ h => h) (Or.inl ⟨by rfl, ?_⟩) (by assumption) ?_
  rotate_left
  · (intro w hSw; (try dsimp only at hSw); go_simp; (try with_reducible rfl))
  try simp only [Act.put, List.setIfInBounds_toArray, List.set_cons_zero, List.set_cons_succ]
  refine wpAnyH_take (i := 22) (oi := { dst := some 69, op := Op.fieldAddr 39 (Operand.tmp 68) 0, type := 0, pos := "law.go:77", after := #[{ on := 21, ground := Ground.data }, { on := 13, ground := Ground.guard }], guard := some (13, false) }) (v := ?_) rfl (by kernel_rfl) (by kernel_rfl) (by kernel_rfl) (fun _ _ _ h => h) (Or.inl ⟨by rfl, ?_⟩) (by assumption) ?_
  rotate_left
  · (intro w hSw; (try dsimp only at hSw); go_simp; (try with_reducible rfl))
  try simp only [Act.put, List.setIfInBounds_toArray, List.set_cons_zero, List.set_cons_succ]
  refine wpAnyH_take (i := 23) (oi := { dst := some 70, op := Op.load 3 (Operand.tmp 69), type := 3, pos := "law.go:77", after := #[{ on := 22, ground := Ground.data }, { on := 13, ground := Ground.guard }], guard := some (13, false) }) (v := ?_) rfl (by kernel_rfl) (by kernel_rfl) (by kernel_rfl) (fun _ _ _ h => h) (Or.inl ⟨by rfl, ?_⟩) (by assumption) ?_
  rotate_left
  · (intro w hSw; (try dsimp only at hSw); go_simp; (try with_reducible rfl))
  try simp only [Act.put, List.setIfInBounds_toArray, List.set_cons_zero, List.set_cons_succ]
  refine wpAnyH_take (i := 24) (oi := { dst := some 71, op := Op.binOp BinOp.neq 3 (Operand.tmp 64) (Operand.tmp 70) 3, type := 4, pos := "law.go:77", after := #[{ on := 17, ground := Ground.data }, { on := 23, ground := Ground.data }, { on := 13, ground := Ground.guard }], guard := some (13, false) }) (v := ?_) rfl (by kernel_rfl) (by kernel_rfl) (by kernel_rfl) (fun _ _ _ h => h) (Or.inl ⟨by rfl, ?_⟩) (by assumption) ?_
  rotate_left
  · (intro w hSw; (try dsimp only at hSw); go_simp; (try with_reducible rfl))
  try simp only [Act.put, List.setIfInBounds_toArray, List.set_cons_zero, List.set_cons_succ]
  refine wpAnyH_take (i := 25) (oi := { dst := some 72, op := Op.pick (Operand.tmp 60) (Operand.const (Value.bool true)) (Operand.tmp 71), type := 4, pos := "law.go:77", after := #[{ on := 13, ground := Ground.data }, { on := 24, ground := Ground.data }], guard := none }) (v := ?_) rfl (by kernel_rfl) (by kernel_rfl) (by kernel_rfl) (fun _ _ _ h => h) (Or.inl ⟨by rfl, ?_⟩) (by assumption) ?_
  rotate_left
  · (intro w hSw; (try dsimp only at hSw); go_simp; (try with_reducible rfl))
  try simp only [Act.put, List.setIfInBounds_toArray, List.set_cons_zero, List.set_cons_succ]
  refine wpAnyH_done (by kernel_rfl) ?_ _
  refine NoPanic.normal ?_
  go_wp2_with fail
  have hP8 := (HP.out.at (hb7.drew)).ok q1 q2
  have hM8 := HM.out.at (hb7.drew)
  have hC := And.intro b0 (And.intro b1 b2)
  refine wp_region_noPanic ?_
  refine wp_region_held_drew (S := (fun w' => w'.cell? ⟨w.heap.size, 0, none⟩ = some (.int .i64 ps) ∧ w'.cell? ⟨w.heap.size, 1, none⟩ = some (.slice A vs.length c) ∧ w'.cell? ⟨w.heap.size, 2, none⟩ = some (.slice (some ad) xs.length ce))) (by kernel_rfl) hC (fun hHeld => ?_)
  refine wpAnyH_take (i := 0) (oi := { dst := some 74, op := Op.fieldAddr 25 (Operand.tmp 3) 0, type := 0, pos := "law.go:80", after := #[], guard := none }) (v := ?_) rfl (by kernel_rfl) (by kernel_rfl) (by kernel_rfl) (fun _ _ _ h => h) (Or.inl ⟨by rfl, ?_⟩) (by assumption) ?_
  rotate_left
  · (intro w hSw; (try dsimp only at hSw); go_simp; (try with_reducible rfl))
  try simp only [Act.put, List.setIfInBounds_toArray, List.set_cons_zero, List.set_cons_succ]
  refine wpAnyH_take (i := 1) (oi := { dst := some 75, op := Op.load 3 (Operand.tmp 74), type := 3, pos := "law.go:80", after := #[{ on := 0, ground := Ground.data }], guard := none }) (v := ?_) rfl (by kernel_rfl) (by kernel_rfl) (by kernel_rfl) (fun _ _ _ h => h) (Or.inl ⟨by rfl, ?_⟩) (by assumption) ?_
  rotate_left
  · (intro w hSw; (try dsimp only at hSw); go_simp; (try with_reducible rfl))
  try simp only [Act.put, List.setIfInBounds_toArray, List.set_cons_zero, List.set_cons_succ]
  refine wpAnyH_take (i := 2) (oi := { dst := some 76, op := Op.fieldAddr 25 (Operand.tmp 3) 1, type := 0, pos := "law.go:80", after := #[], guard := none }) (v := ?_) rfl (by kernel_rfl) (by kernel_rfl) (by kernel_rfl) (fun _ _ _ h => h) (Or.inl ⟨by rfl, ?_⟩) (by assumption) ?_
  rotate_left
  · (intro w hSw; (try dsimp only at hSw); go_simp; (try with_reducible rfl))
  try simp only [Act.put, List.setIfInBounds_toArray, List.set_cons_zero, List.set_cons_succ]
  refine wpAnyH_take (i := 3) (oi := { dst := some 77, op := Op.load 22 (Operand.tmp 76), type := 22, pos := "law.go:80", after := #[{ on := 2, ground := Ground.data }], guard := none }) (v := ?_) rfl (by kernel_rfl) (by kernel_rfl) (by kernel_rfl) (fun _ _ _ h => h) (Or.inl ⟨by rfl, ?_⟩) (by assumption) ?_
  rotate_left
  · (intro w hSw; (try dsimp only at hSw); go_simp; (try with_reducible rfl))
  try simp only [Act.put, List.setIfInBounds_toArray, List.set_cons_zero, List.set_cons_succ]
  refine wpAnyH_take (i := 4) (oi := { dst := some 78, op := Op.fieldAddr 25 (Operand.tmp 3) 2, type := 0, pos := "law.go:80", after := #[], guard := none }) (v := ?_) rfl (by kernel_rfl) (by kernel_rfl) (by kernel_rfl) (fun _ _ _ h => h) (Or.inl ⟨by rfl, ?_⟩) (by assumption) ?_
  rotate_left
  · (intro w hSw; (try dsimp only at hSw); go_simp; (try with_reducible rfl))
  try simp only [Act.put, List.setIfInBounds_toArray, List.set_cons_zero, List.set_cons_succ]
  refine wpAnyH_take (i := 5) (oi := { dst := some 79, op := Op.load 23 (Operand.tmp 78), type := 23, pos := "law.go:80", after := #[{ on := 4, ground := Ground.data }], guard := none }) (v := ?_) rfl (by kernel_rfl) (by kernel_rfl) (by kernel_rfl) (fun _ _ _ h => h) (Or.inl ⟨by rfl, ?_⟩) (by assumption) ?_
  rotate_left
  · (intro w hSw; (try dsimp only at hSw); go_simp; (try with_reducible rfl))
  try simp only [Act.put, List.setIfInBounds_toArray, List.set_cons_zero, List.set_cons_succ]
  refine wpAnyH_take (i := 6) (oi := { dst := some 80, op := Op.move (Operand.tmp 1), type := 3, pos := "law.go:80", after := #[], guard := none }) (v := ?_) rfl (by kernel_rfl) (by kernel_rfl) (by kernel_rfl) (fun _ _ _ h => h) (Or.inl ⟨by rfl, ?_⟩) (by assumption) ?_
  rotate_left
  · (intro w hSw; (try dsimp only at hSw); go_simp; (try with_reducible rfl))
  try simp only [Act.put, List.setIfInBounds_toArray, List.set_cons_zero, List.set_cons_succ]
  refine wpAnyH_take (i := 7) (oi := { dst := some 81, op := Op.move (Operand.tmp 2), type := 23, pos := "law.go:80", after := #[], guard := none }) (v := ?_) rfl (by kernel_rfl) (by kernel_rfl) (by kernel_rfl) (fun _ _ _ h => h) (Or.inl ⟨by rfl, ?_⟩) (by assumption) ?_
  rotate_left
  · (intro w hSw; (try dsimp only at hSw); go_simp; (try with_reducible rfl))
  try simp only [Act.put, List.setIfInBounds_toArray, List.set_cons_zero, List.set_cons_succ]
  refine wpAnyH_ready (rs := [8, 10]) (by kernel_rfl) (by simp) ?_
  refine AllReadyH.cons (o := { dst := some 82, op := Op.call { callee := Callee.value (Operand.func 24), args := #[Operand.tmp 79, Operand.tmp 80, Operand.tmp 81], argTypes := #[23, 3, 23] }, type := 23, pos := "law.go:80", after := #[{ on := 5, ground := Ground.data }, { on := 6, ground := Ground.data }, { on := 7, ground := Ground.data }], guard := none }) rfl (fun K hK => ?_) (AllReadyH.cons (o := { dst := some 10, op := Op.alloc 25, type := 0, pos := "law.go:80", after := #[], guard := none }) rfl (fun K hK => ?_) AllReadyH.nil)
  · go_simp
    go_at_call 24
    refine (HRE.out _ hP8 hM8).mono ?_
    rintro e w9 ⟨hb, A5, c5, rfl, hc5, hA5, hN5⟩
    try go_wp2_with fail
    have hP9 := hP8.at hb
    have hb9 := (hb7.drew).trans (hb.mono (hb7.drew).size)
    obtain ⟨b0, b1, b2⟩ := HBX.out _ hb9
    have hC := And.intro b0 (And.intro b1 b2)
    refine hK.out _ _ ?_ (fun hHeld => ?_)
    · exact hC
    clear hK K
    try simp only [Act.put, List.setIfInBounds_toArray, List.set_cons_zero, List.set_cons_succ]
    refine wpAnyH_take (i := 9) (oi := { dst := some 83, op := Op.build 25 #[(0, Operand.tmp 75), (1, Operand.tmp 77), (2, Operand.tmp 82)], type := 25, pos := "law.go:80", after := #[{ on := 1, ground := Ground.data }, { on := 3, ground := Ground.data }, { on := 8, ground := Ground.data }], guard := none }) (v := ?_) rfl (by kernel_rfl) (by kernel_rfl) (by kernel_rfl) (fun _ _ _ h => h) (Or.inl ⟨by rfl, ?_⟩) (by assumption) ?_
    rotate_left
    · (intro w hSw; (try dsimp only at hSw); go_simp; (try with_reducible rfl))
    try simp only [Act.put, List.setIfInBounds_toArray, List.set_cons_zero, List.set_cons_succ]
    have hCa := fun o => HBX.out _ (hb9.alloc hb9.size o)
    refine wpAnyH_ready (rs := [10]) (by kernel_rfl) (by simp) ?_
    refine AllReadyH.cons (o := { dst := some 10, op := Op.alloc 25, type := 0, pos := "law.go:80", after := #[], guard := none }) rfl (fun K hK => ?_) AllReadyH.nil
    go_simp
    refine hK.out _ _ ?_ (fun hHeld => ?_)
    · exact hCa _
    clear hK K
    try simp only [Act.put, List.setIfInBounds_toArray, List.set_cons_zero, List.set_cons_succ]
    refine wpAnyH_ready (rs := [11]) (by kernel_rfl) (by simp) ?_
    refine AllReadyH.cons (o := { dst := none, op := Op.store 25 (Operand.tmp 10) (Operand.tmp 83), type := 0, pos := "law.go:80", after := #[{ on := 10, ground := Ground.data }, { on := 9, ground := Ground.data }, { on := 8, ground := Ground.chain }, { on := 0, ground := Ground.phase }, { on := 1, ground := Ground.phase }, { on := 2, ground := Ground.phase }, { on := 3, ground := Ground.phase }, { on := 4, ground := Ground.phase }, { on := 5, ground := Ground.phase }, { on := 6, ground := Ground.phase }, { on := 7, ground := Ground.phase }, { on := 8, ground := Ground.phase }, { on := 9, ground := Ground.phase }, { on := 10, ground := Ground.phase }], guard := none }) rfl (fun K hK => ?_) AllReadyH.nil
    go_simp
    have bN : Blk (w9.alloc (.cells #[.int .i64 ps, .slice A vs.length c, .slice A5 RR.length c5] 25)) w9.heap.size 25 #[.int .i64 ps, .slice A vs.length c, .slice A5 RR.length c5] := Blk.new w9 _ _
    have hbN := hb9.alloc hb9.size (.cells #[.int .i64 ps, .slice A vs.length c, .slice A5 RR.length c5] 25)
    have hPN := (HP.out.at hbN).ok q1 q2
    have hN : Nodes (w9.alloc (.cells #[.int .i64 ps, .slice A vs.length c, .slice A5 RR.length c5] 25)) (w9.alloc (.cells #[.int .i64 ps, .slice A vs.length c, .slice A5 RR.length c5] 25)).heap.size A5 RR := hN5.at ((Below.refl _ _).alloc (Nat.le_refl _) _)
    refine hK.out _ _ ?_ (fun hHeld => ?_)
    · exact HBX.out _ hbN
    clear hK K
    try simp only [Act.put, List.setIfInBounds_toArray, List.set_cons_zero, List.set_cons_succ]
    refine wpAnyH_done (by kernel_rfl) ?_ _
    refine NoPanic.normal ?_
    obtain ⟨d0, d1, d2⟩ := bN.three
    by_cases hd : 30 < dd
    · rw [if_pos hd] at HCN
      have i9 : (30 : Int) < (dd : Int) := by omega
      go_wp2_with (first
        | (go_at_call 12; refine (HCN.out _ _ _ hPN hc5 hA5 hN).mono ?_; rintro e w10 ⟨rfl, hb⟩; have hP10 := hPN.at hb; have hN10 := hN.at hb; have hb10 := hbN.trans (hb.mono hbN.size); have bN10 := bN.below hb bN.lt; obtain ⟨d0, d1, d2⟩ := bN10.three)
        | (go_at_call 19; refine (HON.out _ _ _ hP10 hc5 hA5 hN10).mono ?_; rintro e w11 ⟨rfl, hb⟩; have hN11 := hN10.at hb; have hb11 := hb10.trans (hb.mono hb10.size); have bN11 := bN10.below hb bN10.lt; obtain ⟨d0, d1, d2⟩ := bN11.three)
        | (go_at_call 25; refine (HDN.out _ _ _ hN11).mono ?_; rintro e w12 ⟨rfl, hb⟩; have hb12 := hb11.trans (hb.mono hb11.size)))
      go_ret
      exact ⟨rfl, hB0.trans (hb12.mono hB0.size)⟩
    · rw [if_neg hd] at HCN
      go_wp2_with (first
        | (go_at_call 12; refine (HCN.out _ _ _ hPN hc5 hA5 hN).mono ?_; rintro e w10 ⟨rfl, hb⟩; have hP10 := hPN.at hb; have hN10 := hN.at hb; have hb10 := hbN.trans (hb.mono hbN.size); have bN10 := bN.below hb bN.lt; obtain ⟨d0, d1, d2⟩ := bN10.three)
        | (go_at_call 19; refine (HON.out _ _ _ hP10 hc5 hA5 hN10).mono ?_; rintro e w11 ⟨rfl, hb⟩; have hb11 := hb10.trans (hb.mono hb10.size)))
      go_ret
      exact ⟨rfl, hB0.trans (hb11.mono hB0.size)⟩
  · go_simp
    have hCa := fun o => HBX.out _ ((hb7.drew).alloc hb7.size o)
    refine hK.out _ _ ?_ (fun hHeld => ?_)
    · exact hCa _
    clear hK K
    try simp only [Act.put, List.setIfInBounds_toArray, List.set_cons_zero, List.set_cons_succ]
    have hbz := (hb7.drew).alloc hb7.size (.cells #[.int .i64 0, .slice none 0 0, .slice none 0 0] 25)
    have hPz := (HP.out.at hbz).ok q1 q2
    have hMz := HM.out.at hbz
    have bZ : Blk (w7.drew.alloc (.cells #[.int .i64 0, .slice none 0 0, .slice none 0 0] 25)) w7.heap.size 25 #[.int .i64 0, .slice none 0 0, .slice none 0 0] := Blk.new w7.drew _ _
    refine wpAnyH_ready (rs := [8]) (by kernel_rfl) (by simp) ?_
    refine AllReadyH.cons (o := { dst := some 82, op := Op.call { callee := Callee.value (Operand.func 24), args := #[Operand.tmp 79, Operand.tmp 80, Operand.tmp 81], argTypes := #[23, 3, 23] }, type := 23, pos := "law.go:80", after := #[{ on := 5, ground := Ground.data }, { on := 6, ground := Ground.data }, { on := 7, ground := Ground.data }], guard := none }) rfl (fun K hK => ?_) AllReadyH.nil
    go_simp
    go_at_call 24
    refine (HRE.out _ hPz hMz).mono ?_
    rintro e w9 ⟨hb, A5, c5, rfl, hc5, hA5, hN5⟩
    try go_wp2_with fail
    have hP9 := hPz.at hb
    have hb9 := (hbz).trans (hb.mono (hbz).size)
    obtain ⟨b0, b1, b2⟩ := HBX.out _ hb9
    have hC := And.intro b0 (And.intro b1 b2)
    refine hK.out _ _ ?_ (fun hHeld => ?_)
    · exact hC
    clear hK K
    try simp only [Act.put, List.setIfInBounds_toArray, List.set_cons_zero, List.set_cons_succ]
    refine wpAnyH_take (i := 9) (oi := { dst := some 83, op := Op.build 25 #[(0, Operand.tmp 75), (1, Operand.tmp 77), (2, Operand.tmp 82)], type := 25, pos := "law.go:80", after := #[{ on := 1, ground := Ground.data }, { on := 3, ground := Ground.data }, { on := 8, ground := Ground.data }], guard := none }) (v := ?_) rfl (by kernel_rfl) (by kernel_rfl) (by kernel_rfl) (fun _ _ _ h => h) (Or.inl ⟨by rfl, ?_⟩) (by assumption) ?_
    rotate_left
    · (intro w hSw; (try dsimp only at hSw); go_simp; (try with_reducible rfl))
    try simp only [Act.put, List.setIfInBounds_toArray, List.set_cons_zero, List.set_cons_succ]
    have bZ9 := bZ.below hb bZ.lt
    obtain ⟨z0, z1, z2⟩ := bZ9.three
    have f0 := bZ9.frozen 0
    have f1 := bZ9.frozen 1
    have f2 := bZ9.frozen 2
    refine wpAnyH_ready (rs := [11]) (by kernel_rfl) (by simp) ?_
    refine AllReadyH.cons (o := { dst := none, op := Op.store 25 (Operand.tmp 10) (Operand.tmp 83), type := 0, pos := "law.go:80", after := #[{ on := 10, ground := Ground.data }, { on := 9, ground := Ground.data }, { on := 8, ground := Ground.chain }, { on := 0, ground := Ground.phase }, { on := 1, ground := Ground.phase }, { on := 2, ground := Ground.phase }, { on := 3, ground := Ground.phase }, { on := 4, ground := Ground.phase }, { on := 5, ground := Ground.phase }, { on := 6, ground := Ground.phase }, { on := 7, ground := Ground.phase }, { on := 8, ground := Ground.phase }, { on := 9, ground := Ground.phase }, { on := 10, ground := Ground.phase }], guard := none }) rfl (fun K hK => ?_) AllReadyH.nil
    go_simp
    have bN1 : Blk (w9.setCell ⟨w7.heap.size, 0, none⟩ (.int .i64 ps)) w7.heap.size 25 #[.int .i64 ps, .slice none 0 0, .slice none 0 0] := bZ9.set 0 _
    have bN2 : Blk ((w9.setCell ⟨w7.heap.size, 0, none⟩ (.int .i64 ps)).setCell ⟨w7.heap.size, 1, none⟩ (.slice A vs.length c)) w7.heap.size 25 #[.int .i64 ps, .slice A vs.length c, .slice none 0 0] := bN1.set 1 _
    have bN : Blk (((w9.setCell ⟨w7.heap.size, 0, none⟩ (.int .i64 ps)).setCell ⟨w7.heap.size, 1, none⟩ (.slice A vs.length c)).setCell ⟨w7.heap.size, 2, none⟩ (.slice A5 RR.length c5)) w7.heap.size 25 #[.int .i64 ps, .slice A vs.length c, .slice A5 RR.length c5] := bN2.set 2 _
    have hbN := ((hb9.setCell (p := ⟨w7.heap.size, 0, none⟩) hb7.size (.int .i64 ps)).setCell (p := ⟨w7.heap.size, 1, none⟩) hb7.size (.slice A vs.length c)).setCell (p := ⟨w7.heap.size, 2, none⟩) hb7.size (.slice A5 RR.length c5)
    have hPN := (HP.out.at hbN).ok q1 q2
    have hN : Nodes (((w9.setCell ⟨w7.heap.size, 0, none⟩ (.int .i64 ps)).setCell ⟨w7.heap.size, 1, none⟩ (.slice A vs.length c)).setCell ⟨w7.heap.size, 2, none⟩ (.slice A5 RR.length c5)) (((w9.setCell ⟨w7.heap.size, 0, none⟩ (.int .i64 ps)).setCell ⟨w7.heap.size, 1, none⟩ (.slice A vs.length c)).setCell ⟨w7.heap.size, 2, none⟩ (.slice A5 RR.length c5)).heap.size A5 RR := by
      rw [size_set, size_set, size_set]
      exact nodes_far (nodes_far (nodes_far hN5 bZ9 0 _) bN1 1 _) bN2 2 _
    refine hK.out _ _ ?_ (fun hHeld => ?_)
    · exact HBX.out _ hbN
    clear hK K
    try simp only [Act.put, List.setIfInBounds_toArray, List.set_cons_zero, List.set_cons_succ]
    refine wpAnyH_done (by kernel_rfl) ?_ _
    refine NoPanic.normal ?_
    obtain ⟨d0, d1, d2⟩ := bN.three
    by_cases hd : 30 < dd
    · rw [if_pos hd] at HCN
      have i9 : (30 : Int) < (dd : Int) := by omega
      go_wp2_with (first
        | (go_at_call 12; refine (HCN.out _ _ _ hPN hc5 hA5 hN).mono ?_; rintro e w10 ⟨rfl, hb⟩; have hP10 := hPN.at hb; have hN10 := hN.at hb; have hb10 := hbN.trans (hb.mono hbN.size); have bN10 := bN.below hb bN.lt; obtain ⟨d0, d1, d2⟩ := bN10.three)
        | (go_at_call 19; refine (HON.out _ _ _ hP10 hc5 hA5 hN10).mono ?_; rintro e w11 ⟨rfl, hb⟩; have hN11 := hN10.at hb; have hb11 := hb10.trans (hb.mono hb10.size); have bN11 := bN10.below hb bN10.lt; obtain ⟨d0, d1, d2⟩ := bN11.three)
        | (go_at_call 25; refine (HDN.out _ _ _ hN11).mono ?_; rintro e w12 ⟨rfl, hb⟩; have hb12 := hb11.trans (hb.mono hb11.size)))
      go_ret
      exact ⟨rfl, hB0.trans (hb12.mono hB0.size)⟩
    · rw [if_neg hd] at HCN
      go_wp2_with (first
        | (go_at_call 12; refine (HCN.out _ _ _ hPN hc5 hA5 hN).mono ?_; rintro e w10 ⟨rfl, hb⟩; have hP10 := hPN.at hb; have hN10 := hN.at hb; have hb10 := hbN.trans (hb.mono hbN.size); have bN10 := bN.below hb bN.lt; obtain ⟨d0, d1, d2⟩ := bN10.three)
        | (go_at_call 19; refine (HON.out _ _ _ hP10 hc5 hA5 hN10).mono ?_; rintro e w11 ⟨rfl, hb⟩; have hb11 := hb10.trans (hb.mono hb10.size)))
      go_ret
      exact ⟨rfl, hB0.trans (hb11.mono hB0.size)⟩

end Go.Proofs.Yteknfglfbkknaaa.Kinds
