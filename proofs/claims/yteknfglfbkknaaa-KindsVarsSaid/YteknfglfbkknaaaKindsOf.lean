/-
  The reference of kinds, walked: a node's kind, a theorem a tag.
-/
import Derived.Test.YteknfglfbkknaaaKindsRefB
namespace Go.Proofs.Yteknfglfbkknaaa.Kinds
open Go.RowKit Mem _root_.Go.Proofs.Yteknfglfbkknaaa.Arena
set_option linter.unusedVariables false
attribute [local go_sem ↓] Go.wp_at_zero Go.wp_at_succ

/-- What is known of a node's kids: each may be asked. -/
structure Asks (p : Prg) (ks : List Int) : Prop where
  of : ∀ q ∈ ks, ∀ W, p.Ok W → Calls Try.prog 20 #[.agg #[.int .i64 p.ps, .slice p.A p.vs.length p.c, .slice p.B p.xs.length p.e], .int .i64 q] W fun e w' => e = .returned (.int .i64 (okind p.vs p.xs q)) ∧ Below W.heap.size W w'
  inn : ∀ q ∈ ks, ∃ k x, q = ((k : Nat) : Int) ∧ p.xs[k]? = some x
  len : ks.length ≤ 200
/-- A node at k, of tag t and number n, its kids ks. -/
structure NodeAt (p : Prg) (k : Nat) (t n : Int) (ks : List Int) : Prop where
  node : p.xs[k]? = some (t, n)
  ends : 0 ≤ aend p.xs k
  kids : akids p.xs k = ks
  arity : ks.length = (ar (t, n)).toNat

theorem IRow.one {w : World} {B : Nat} (g : Nat) (ws : List Int) (h : Blk w g 3 (icells ws).toArray) (hB : g < B) : IRow w B (some ⟨g, 0, none⟩) ws := by
  intro i x hx
  refine ⟨_, rfl, hB, ?_⟩
  have : (⟨g, 0, none⟩ : Addr).add i = ⟨g, i, none⟩ := by unfold Addr.add; split <;> simp_all
  rw [this, h.cell]; simp [icells, hx]

theorem ifso_iff {p q : Prop} [Decidable p] [Decidable q] (h : p ↔ q) (k : Int) : ifso p k = ifso q k := by unfold ifso; by_cases hp : p <;> simp [hp, ← h]
theorem ifso_dec {p : Prop} [Decidable p] (k : Int) : ifso (decide p = true) k = ifso p k := by unfold ifso; by_cases h : p <;> simp [h]

set_option maxRecDepth 100000 in
set_option maxHeartbeats 2000000 in
theorem of_1 (p : Prg) (k : Nat) (n : Int) (ks : List Int) (w : World) (hp : p.Ok w) (hN : NodeAt p k 1 n ks) (hA : Asks p ks) :
    Calls Try.prog 20 #[.agg #[.int .i64 p.ps, .slice p.A p.vs.length p.c, .slice p.B p.xs.length p.e], .int .i64 k] w fun e w' => e = .returned (.int .i64 (0)) ∧ Below w.heap.size w w' := by
  obtain ⟨ad, hB1, -, -, -⟩ := hp.body k _ hN.node
  obtain ⟨ps, A, c, vs, B, e, xs⟩ := p
  simp only at hB1
  subst hB1
  have hB0 : Below w.heap.size w (w.alloc (.cells #[.int .i64 ps, .slice A vs.length c, .slice (some ad) xs.length e] 25)) := (Below.refl _ _).alloc (Nat.le_refl _) _
  have bX := Blk.new w 25 #[.int .i64 ps, .slice A vs.length c, .slice (some ad) xs.length e]
  have hgl : w.heap.size < (w.alloc (.cells #[.int .i64 ps, .slice A vs.length c, .slice (some ad) xs.length e] 25)).heap.size := bX.lt
  have HBX := Lib.hid (fun W (h : Below (w.alloc (.cells #[.int .i64 ps, .slice A vs.length c, .slice (some ad) xs.length e] 25)).heap.size (w.alloc (.cells #[.int .i64 ps, .slice A vs.length c, .slice (some ad) xs.length e] 25)) W) => (bX.below h hgl).three)
  have HX := Lib.hid (hp.at hB0)
  have hlx : xs.length ≤ 1000000 := hp.lx
  obtain ⟨E, hE⟩ := Int.eq_ofNat_of_zero_le hN.ends
  have hks := hN.kids
  simp only at hE hks
  have HE := Lib.hid (fun W (hW : Nodes W W.heap.size (some ad) xs) => ref_End_any (some ad) e xs (k : Int) W hW hlx)
  rw [hE] at HE
  have HK := Lib.hid (fun W (hW : Nodes W W.heap.size (some ad) xs) => (ref_Kids_any (some ad) e xs (k : Int) W hW hlx).mono (fun _ _ h => h.ints))
  rw [hks] at HK
  have HT := Lib.hid (fun W (hW : Prg.Ok ⟨ps, A, c, vs, some ad, e, xs⟩ W) => ref_typed_any ⟨ps, A, c, vs, some ad, e, xs⟩ n W hW)
  have hn : xs[k]? = some (1, n) := hN.node
  have HBD := Lib.hid (fun W (hW : Nodes W W.heap.size (some ad) xs) => show W.cell? (ad.add (k * 2)) = some (.int .i64 1) ∧ W.cell? ⟨(ad.add (k * 2)).block, (ad.add (k * 2)).off + 1, none⟩ = some (.int .i64 n) from by
    obtain ⟨_, q, -, q1, q2⟩ := hW k _ hn
    cases q
    exact ⟨q1, q2⟩)
  have i1 : (k : Int) < (xs.length : Int) := by have := (List.getElem?_eq_some_iff.1 hn).1; omega
  have i2 : (0 : Int) ≤ (k : Int) := by omega
  have i3 : ¬ (E : Int) < 0 := by omega
  have HAS := Lib.hid hA
  obtain ⟨t, ht⟩ : ∃ t, vtyp vs n = t := ⟨_, rfl⟩
  simp only [ht] at HT
  clear hN hA hn hE hks hp bX ht
  obtain ⟨b0, b1, b2⟩ := HBX.out _ (Below.refl _ _)
  go_enter Try.func20, Try.ntmps20
  go_wp2_with (first
    | (go_at_call 40; refine (HE.out _ HX.out.body).mono ?_; rintro e w2 ⟨rfl, hb2⟩; have hP2 := HX.out.at hb2; obtain ⟨a0, a1, a2⟩ := HBX.out _ hb2; obtain ⟨g0, g1⟩ := HBD.out _ hP2.body; have hn3 : Below w2.heap.size w2 (w2.alloc (.cells #[.int .i64 1, .int .i64 n] 39)) := (Below.refl _ _).alloc (Nat.le_refl _) _; have hb3 := hb2.trans (hn3.mono hb2.size); have bN := Blk.new w2 39 #[.int .i64 1, .int .i64 n]; have hnl := bN.lt; have hP3 := hP2.at hn3; obtain ⟨b0, b1, b2⟩ := HBX.out _ hb3)
    | (go_at_call 41; refine (HK.out _ hP3.body).mono ?_; rintro e w4 ⟨hb, A1, c1, rfl, hR4, -⟩; have hb4 := hb3.trans (hb.mono hb3.size); have bN4 := bN.below hb hnl; obtain ⟨n0, n1⟩ := bN4.two; have hnl4 := bN4.lt; have hP4 := hP3.at hb; obtain ⟨b0, b1, b2⟩ := HBX.out _ hb4)
    | (go_at_call 42; refine (HT.out _ hP4).mono ?_; rintro e w5 ⟨rfl, hb⟩; have hb5 := hb4.trans (hb.mono hb4.size); have bN5 := bN4.below hb hnl4; obtain ⟨n0, n1⟩ := bN5.two; have hP5 := hP4.at hb; have hR5 := hR4.at hb; obtain ⟨b0, b1, b2⟩ := HBX.out _ hb5))
  go_ret
  exact ⟨rfl, hB0.trans (hb5.mono hB0.size)⟩
set_option maxRecDepth 100000 in
set_option maxHeartbeats 2000000 in
theorem of_2 (p : Prg) (k : Nat) (n : Int) (ks : List Int) (w : World) (hp : p.Ok w) (hN : NodeAt p k 2 n ks) (hA : Asks p ks) :
    Calls Try.prog 20 #[.agg #[.int .i64 p.ps, .slice p.A p.vs.length p.c, .slice p.B p.xs.length p.e], .int .i64 k] w fun e w' => e = .returned (.int .i64 (1)) ∧ Below w.heap.size w w' := by
  obtain ⟨ad, hB1, -, -, -⟩ := hp.body k _ hN.node
  obtain ⟨ps, A, c, vs, B, e, xs⟩ := p
  simp only at hB1
  subst hB1
  have hB0 : Below w.heap.size w (w.alloc (.cells #[.int .i64 ps, .slice A vs.length c, .slice (some ad) xs.length e] 25)) := (Below.refl _ _).alloc (Nat.le_refl _) _
  have bX := Blk.new w 25 #[.int .i64 ps, .slice A vs.length c, .slice (some ad) xs.length e]
  have hgl : w.heap.size < (w.alloc (.cells #[.int .i64 ps, .slice A vs.length c, .slice (some ad) xs.length e] 25)).heap.size := bX.lt
  have HBX := Lib.hid (fun W (h : Below (w.alloc (.cells #[.int .i64 ps, .slice A vs.length c, .slice (some ad) xs.length e] 25)).heap.size (w.alloc (.cells #[.int .i64 ps, .slice A vs.length c, .slice (some ad) xs.length e] 25)) W) => (bX.below h hgl).three)
  have HX := Lib.hid (hp.at hB0)
  have hlx : xs.length ≤ 1000000 := hp.lx
  obtain ⟨E, hE⟩ := Int.eq_ofNat_of_zero_le hN.ends
  have hks := hN.kids
  simp only at hE hks
  have HE := Lib.hid (fun W (hW : Nodes W W.heap.size (some ad) xs) => ref_End_any (some ad) e xs (k : Int) W hW hlx)
  rw [hE] at HE
  have HK := Lib.hid (fun W (hW : Nodes W W.heap.size (some ad) xs) => (ref_Kids_any (some ad) e xs (k : Int) W hW hlx).mono (fun _ _ h => h.ints))
  rw [hks] at HK
  have HT := Lib.hid (fun W (hW : Prg.Ok ⟨ps, A, c, vs, some ad, e, xs⟩ W) => ref_typed_any ⟨ps, A, c, vs, some ad, e, xs⟩ n W hW)
  have hn : xs[k]? = some (2, n) := hN.node
  have HBD := Lib.hid (fun W (hW : Nodes W W.heap.size (some ad) xs) => show W.cell? (ad.add (k * 2)) = some (.int .i64 2) ∧ W.cell? ⟨(ad.add (k * 2)).block, (ad.add (k * 2)).off + 1, none⟩ = some (.int .i64 n) from by
    obtain ⟨_, q, -, q1, q2⟩ := hW k _ hn
    cases q
    exact ⟨q1, q2⟩)
  have i1 : (k : Int) < (xs.length : Int) := by have := (List.getElem?_eq_some_iff.1 hn).1; omega
  have i2 : (0 : Int) ≤ (k : Int) := by omega
  have i3 : ¬ (E : Int) < 0 := by omega
  have HAS := Lib.hid hA
  obtain ⟨t, ht⟩ : ∃ t, vtyp vs n = t := ⟨_, rfl⟩
  simp only [ht] at HT
  clear hN hA hn hE hks hp bX ht
  obtain ⟨b0, b1, b2⟩ := HBX.out _ (Below.refl _ _)
  go_enter Try.func20, Try.ntmps20
  go_wp2_with (first
    | (go_at_call 40; refine (HE.out _ HX.out.body).mono ?_; rintro e w2 ⟨rfl, hb2⟩; have hP2 := HX.out.at hb2; obtain ⟨a0, a1, a2⟩ := HBX.out _ hb2; obtain ⟨g0, g1⟩ := HBD.out _ hP2.body; have hn3 : Below w2.heap.size w2 (w2.alloc (.cells #[.int .i64 2, .int .i64 n] 39)) := (Below.refl _ _).alloc (Nat.le_refl _) _; have hb3 := hb2.trans (hn3.mono hb2.size); have bN := Blk.new w2 39 #[.int .i64 2, .int .i64 n]; have hnl := bN.lt; have hP3 := hP2.at hn3; obtain ⟨b0, b1, b2⟩ := HBX.out _ hb3)
    | (go_at_call 41; refine (HK.out _ hP3.body).mono ?_; rintro e w4 ⟨hb, A1, c1, rfl, hR4, -⟩; have hb4 := hb3.trans (hb.mono hb3.size); have bN4 := bN.below hb hnl; obtain ⟨n0, n1⟩ := bN4.two; have hnl4 := bN4.lt; have hP4 := hP3.at hb; obtain ⟨b0, b1, b2⟩ := HBX.out _ hb4)
    | (go_at_call 42; refine (HT.out _ hP4).mono ?_; rintro e w5 ⟨rfl, hb⟩; have hb5 := hb4.trans (hb.mono hb4.size); have bN5 := bN4.below hb hnl4; obtain ⟨n0, n1⟩ := bN5.two; have hP5 := hP4.at hb; have hR5 := hR4.at hb; obtain ⟨b0, b1, b2⟩ := HBX.out _ hb5))
  go_ret
  exact ⟨rfl, hB0.trans (hb5.mono hB0.size)⟩
set_option maxRecDepth 100000 in
set_option maxHeartbeats 2000000 in
theorem of_3 (p : Prg) (k : Nat) (n : Int) (ks : List Int) (w : World) (hp : p.Ok w) (hN : NodeAt p k 3 n ks) (hA : Asks p ks) :
    Calls Try.prog 20 #[.agg #[.int .i64 p.ps, .slice p.A p.vs.length p.c, .slice p.B p.xs.length p.e], .int .i64 k] w fun e w' => e = .returned (.int .i64 (ifso (vtyp p.vs n = 0 ∨ vtyp p.vs n = 1) (vtyp p.vs n))) ∧ Below w.heap.size w w' := by
  obtain ⟨ad, hB1, -, -, -⟩ := hp.body k _ hN.node
  obtain ⟨ps, A, c, vs, B, e, xs⟩ := p
  simp only at hB1
  subst hB1
  have hB0 : Below w.heap.size w (w.alloc (.cells #[.int .i64 ps, .slice A vs.length c, .slice (some ad) xs.length e] 25)) := (Below.refl _ _).alloc (Nat.le_refl _) _
  have bX := Blk.new w 25 #[.int .i64 ps, .slice A vs.length c, .slice (some ad) xs.length e]
  have hgl : w.heap.size < (w.alloc (.cells #[.int .i64 ps, .slice A vs.length c, .slice (some ad) xs.length e] 25)).heap.size := bX.lt
  have HBX := Lib.hid (fun W (h : Below (w.alloc (.cells #[.int .i64 ps, .slice A vs.length c, .slice (some ad) xs.length e] 25)).heap.size (w.alloc (.cells #[.int .i64 ps, .slice A vs.length c, .slice (some ad) xs.length e] 25)) W) => (bX.below h hgl).three)
  have HX := Lib.hid (hp.at hB0)
  have hlx : xs.length ≤ 1000000 := hp.lx
  obtain ⟨E, hE⟩ := Int.eq_ofNat_of_zero_le hN.ends
  have hks := hN.kids
  simp only at hE hks
  have HE := Lib.hid (fun W (hW : Nodes W W.heap.size (some ad) xs) => ref_End_any (some ad) e xs (k : Int) W hW hlx)
  rw [hE] at HE
  have HK := Lib.hid (fun W (hW : Nodes W W.heap.size (some ad) xs) => (ref_Kids_any (some ad) e xs (k : Int) W hW hlx).mono (fun _ _ h => h.ints))
  rw [hks] at HK
  have HT := Lib.hid (fun W (hW : Prg.Ok ⟨ps, A, c, vs, some ad, e, xs⟩ W) => ref_typed_any ⟨ps, A, c, vs, some ad, e, xs⟩ n W hW)
  have hn : xs[k]? = some (3, n) := hN.node
  have HBD := Lib.hid (fun W (hW : Nodes W W.heap.size (some ad) xs) => show W.cell? (ad.add (k * 2)) = some (.int .i64 3) ∧ W.cell? ⟨(ad.add (k * 2)).block, (ad.add (k * 2)).off + 1, none⟩ = some (.int .i64 n) from by
    obtain ⟨_, q, -, q1, q2⟩ := hW k _ hn
    cases q
    exact ⟨q1, q2⟩)
  have i1 : (k : Int) < (xs.length : Int) := by have := (List.getElem?_eq_some_iff.1 hn).1; omega
  have i2 : (0 : Int) ≤ (k : Int) := by omega
  have i3 : ¬ (E : Int) < 0 := by omega
  have HAS := Lib.hid hA
  obtain ⟨t, ht⟩ : ∃ t, vtyp vs n = t := ⟨_, rfl⟩
  simp only [ht] at HT ⊢
  clear hN hA hn hE hks hp bX ht
  obtain ⟨b0, b1, b2⟩ := HBX.out _ (Below.refl _ _)
  have HKD := Lib.hid (fun b k W => ref_kind_any b k W)
  by_cases h0 : t = 0
  · subst h0
    go_enter Try.func20, Try.ntmps20
    go_wp2_with (first
      | (go_at_call 40; refine (HE.out _ HX.out.body).mono ?_; rintro e w2 ⟨rfl, hb2⟩; have hP2 := HX.out.at hb2; obtain ⟨a0, a1, a2⟩ := HBX.out _ hb2; obtain ⟨g0, g1⟩ := HBD.out _ hP2.body; have hn3 : Below w2.heap.size w2 (w2.alloc (.cells #[.int .i64 3, .int .i64 n] 39)) := (Below.refl _ _).alloc (Nat.le_refl _) _; have hb3 := hb2.trans (hn3.mono hb2.size); have bN := Blk.new w2 39 #[.int .i64 3, .int .i64 n]; have hnl := bN.lt; have hP3 := hP2.at hn3; obtain ⟨b0, b1, b2⟩ := HBX.out _ hb3)
      | (go_at_call 41; refine (HK.out _ hP3.body).mono ?_; rintro e w4 ⟨hb, A1, c1, rfl, hR4, -⟩; have hb4 := hb3.trans (hb.mono hb3.size); have bN4 := bN.below hb hnl; obtain ⟨n0, n1⟩ := bN4.two; have hnl4 := bN4.lt; have hP4 := hP3.at hb; obtain ⟨b0, b1, b2⟩ := HBX.out _ hb4)
      | (go_at_call 42; refine (HT.out _ hP4).mono ?_; rintro e w5 ⟨rfl, hb⟩; have hb5 := hb4.trans (hb.mono hb4.size); have bN5 := bN4.below hb hnl4; obtain ⟨n0, n1⟩ := bN5.two; have hP5 := hP4.at hb; have hR5 := hR4.at hb; obtain ⟨b0, b1, b2⟩ := HBX.out _ hb5)
      | (go_at_call 43; refine (HKD.out _ _ _).mono ?_; rintro e w8 ⟨rfl, rfl⟩))
    go_ret
    exact ⟨rfl, hB0.trans (hb5.mono hB0.size)⟩
  by_cases h1 : t = 1
  · subst h1
    go_enter Try.func20, Try.ntmps20
    go_wp2_with (first
      | (go_at_call 40; refine (HE.out _ HX.out.body).mono ?_; rintro e w2 ⟨rfl, hb2⟩; have hP2 := HX.out.at hb2; obtain ⟨a0, a1, a2⟩ := HBX.out _ hb2; obtain ⟨g0, g1⟩ := HBD.out _ hP2.body; have hn3 : Below w2.heap.size w2 (w2.alloc (.cells #[.int .i64 3, .int .i64 n] 39)) := (Below.refl _ _).alloc (Nat.le_refl _) _; have hb3 := hb2.trans (hn3.mono hb2.size); have bN := Blk.new w2 39 #[.int .i64 3, .int .i64 n]; have hnl := bN.lt; have hP3 := hP2.at hn3; obtain ⟨b0, b1, b2⟩ := HBX.out _ hb3)
      | (go_at_call 41; refine (HK.out _ hP3.body).mono ?_; rintro e w4 ⟨hb, A1, c1, rfl, hR4, -⟩; have hb4 := hb3.trans (hb.mono hb3.size); have bN4 := bN.below hb hnl; obtain ⟨n0, n1⟩ := bN4.two; have hnl4 := bN4.lt; have hP4 := hP3.at hb; obtain ⟨b0, b1, b2⟩ := HBX.out _ hb4)
      | (go_at_call 42; refine (HT.out _ hP4).mono ?_; rintro e w5 ⟨rfl, hb⟩; have hb5 := hb4.trans (hb.mono hb4.size); have bN5 := bN4.below hb hnl4; obtain ⟨n0, n1⟩ := bN5.two; have hP5 := hP4.at hb; have hR5 := hR4.at hb; obtain ⟨b0, b1, b2⟩ := HBX.out _ hb5)
      | (go_at_call 43; refine (HKD.out _ _ _).mono ?_; rintro e w8 ⟨rfl, rfl⟩))
    go_ret
    exact ⟨rfl, hB0.trans (hb5.mono hB0.size)⟩
  have e0 : (t == 0) = false := by simpa using h0
  have e1 : (t == 1) = false := by simpa using h1
  have HF := Lib.hid (show ifso (t = 0 ∨ t = 1) t = -1 by unfold ifso; rw [if_neg (by omega)])
  go_enter Try.func20, Try.ntmps20
  go_wp2_with (first
    | (go_at_call 40; refine (HE.out _ HX.out.body).mono ?_; rintro e w2 ⟨rfl, hb2⟩; have hP2 := HX.out.at hb2; obtain ⟨a0, a1, a2⟩ := HBX.out _ hb2; obtain ⟨g0, g1⟩ := HBD.out _ hP2.body; have hn3 : Below w2.heap.size w2 (w2.alloc (.cells #[.int .i64 3, .int .i64 n] 39)) := (Below.refl _ _).alloc (Nat.le_refl _) _; have hb3 := hb2.trans (hn3.mono hb2.size); have bN := Blk.new w2 39 #[.int .i64 3, .int .i64 n]; have hnl := bN.lt; have hP3 := hP2.at hn3; obtain ⟨b0, b1, b2⟩ := HBX.out _ hb3)
    | (go_at_call 41; refine (HK.out _ hP3.body).mono ?_; rintro e w4 ⟨hb, A1, c1, rfl, hR4, -⟩; have hb4 := hb3.trans (hb.mono hb3.size); have bN4 := bN.below hb hnl; obtain ⟨n0, n1⟩ := bN4.two; have hnl4 := bN4.lt; have hP4 := hP3.at hb; obtain ⟨b0, b1, b2⟩ := HBX.out _ hb4)
    | (go_at_call 42; refine (HT.out _ hP4).mono ?_; rintro e w5 ⟨rfl, hb⟩; have hb5 := hb4.trans (hb.mono hb4.size); have bN5 := bN4.below hb hnl4; obtain ⟨n0, n1⟩ := bN5.two; have hP5 := hP4.at hb; have hR5 := hR4.at hb; obtain ⟨b0, b1, b2⟩ := HBX.out _ hb5)
    | (go_at_call 43; refine (HKD.out _ _ _).mono ?_; rintro e w8 ⟨rfl, rfl⟩))
  go_ret
  exact ⟨by rw [HF.out]; rfl, hB0.trans (hb5.mono hB0.size)⟩
set_option maxRecDepth 100000 in
set_option maxHeartbeats 2000000 in
theorem of_4 (p : Prg) (k : Nat) (n : Int) (ks : List Int) (w : World) (hp : p.Ok w) (hN : NodeAt p k 4 n ks) (hA : Asks p ks) :
    Calls Try.prog 20 #[.agg #[.int .i64 p.ps, .slice p.A p.vs.length p.c, .slice p.B p.xs.length p.e], .int .i64 k] w fun e w' => e = .returned (.int .i64 (ifso (0 < asz (vtyp p.vs n) ∧ ks.map (okind p.vs p.xs) = [0]) 0)) ∧ Below w.heap.size w w' := by
  obtain ⟨ad, hB1, -, -, -⟩ := hp.body k _ hN.node
  obtain ⟨ps, A, c, vs, B, e, xs⟩ := p
  simp only at hB1
  subst hB1
  have hB0 : Below w.heap.size w (w.alloc (.cells #[.int .i64 ps, .slice A vs.length c, .slice (some ad) xs.length e] 25)) := (Below.refl _ _).alloc (Nat.le_refl _) _
  have bX := Blk.new w 25 #[.int .i64 ps, .slice A vs.length c, .slice (some ad) xs.length e]
  have hgl : w.heap.size < (w.alloc (.cells #[.int .i64 ps, .slice A vs.length c, .slice (some ad) xs.length e] 25)).heap.size := bX.lt
  have HBX := Lib.hid (fun W (h : Below (w.alloc (.cells #[.int .i64 ps, .slice A vs.length c, .slice (some ad) xs.length e] 25)).heap.size (w.alloc (.cells #[.int .i64 ps, .slice A vs.length c, .slice (some ad) xs.length e] 25)) W) => (bX.below h hgl).three)
  have HX := Lib.hid (hp.at hB0)
  have hlx : xs.length ≤ 1000000 := hp.lx
  obtain ⟨E, hE⟩ := Int.eq_ofNat_of_zero_le hN.ends
  have hks := hN.kids
  simp only at hE hks
  have HE := Lib.hid (fun W (hW : Nodes W W.heap.size (some ad) xs) => ref_End_any (some ad) e xs (k : Int) W hW hlx)
  rw [hE] at HE
  have HK := Lib.hid (fun W (hW : Nodes W W.heap.size (some ad) xs) => (ref_Kids_any (some ad) e xs (k : Int) W hW hlx).mono (fun _ _ h => h.ints))
  rw [hks] at HK
  have HT := Lib.hid (fun W (hW : Prg.Ok ⟨ps, A, c, vs, some ad, e, xs⟩ W) => ref_typed_any ⟨ps, A, c, vs, some ad, e, xs⟩ n W hW)
  have hn : xs[k]? = some (4, n) := hN.node
  have HBD := Lib.hid (fun W (hW : Nodes W W.heap.size (some ad) xs) => show W.cell? (ad.add (k * 2)) = some (.int .i64 4) ∧ W.cell? ⟨(ad.add (k * 2)).block, (ad.add (k * 2)).off + 1, none⟩ = some (.int .i64 n) from by
    obtain ⟨_, q, -, q1, q2⟩ := hW k _ hn
    cases q
    exact ⟨q1, q2⟩)
  have i1 : (k : Int) < (xs.length : Int) := by have := (List.getElem?_eq_some_iff.1 hn).1; omega
  have i2 : (0 : Int) ≤ (k : Int) := by omega
  have i3 : ¬ (E : Int) < 0 := by omega
  have HAS := Lib.hid hA
  obtain ⟨t, ht⟩ : ∃ t, vtyp vs n = t := ⟨_, rfl⟩
  simp only [ht] at HT ⊢
  clear hN hA hn hE hks hp bX ht
  obtain ⟨b0, b1, b2⟩ := HBX.out _ (Below.refl _ _)
  have HKD := Lib.hid (fun b k W => ref_kind_any b k W)
  have HSZ := Lib.hid (fun W => ref_Size_any t W)
  obtain ⟨z, hz⟩ : ∃ z, asz t = z := ⟨_, rfl⟩
  rw [hz] at HSZ ⊢
  clear hz
  by_cases hz0 : 0 < z
  · have HF := Lib.hid (show ifso (0 < z ∧ ks.map (okind vs xs) = [0]) 0 = ifso (ks.map (okind vs xs) = [0]) 0 from ifso_iff ⟨fun h => h.2, fun h => ⟨hz0, h⟩⟩ _)
    have HALL := Lib.hid (fun W A1 c1 g (hW : (⟨ps, A, c, vs, some ad, e, xs⟩ : Prg).Ok W) (hR : IRow W W.heap.size A1 ks) (hg : Blk W g 3 #[.int .i64 0]) => show Calls Try.prog 44 #[.agg #[.int .i64 ps, .slice A vs.length c, .slice (some ad) xs.length e], .slice A1 ks.length c1, .slice (some ⟨g, 0, none⟩) 1 1] W _ from ref_all_any (⟨ps, A, c, vs, some ad, e, xs⟩ : Prg) (okind vs xs) A1 c1 ks (some ⟨g, 0, none⟩) 1 [0] W hW HAS.out.of hR (IRow.one g [0] hg hg.lt) (by have := HAS.out.len; omega) (by decide))
    obtain ⟨b, hb0⟩ : ∃ b, decide (ks.map (okind vs xs) = [0]) = b := ⟨_, rfl⟩
    rw [hb0] at HALL
    have HBB := Lib.hid hb0
    clear hb0
    go_enter Try.func20, Try.ntmps20
    go_wp2_with (first
      | (go_at_call 40; refine (HE.out _ HX.out.body).mono ?_; rintro e w2 ⟨rfl, hb2⟩; have hP2 := HX.out.at hb2; obtain ⟨a0, a1, a2⟩ := HBX.out _ hb2; obtain ⟨g0, g1⟩ := HBD.out _ hP2.body; have hn3 : Below w2.heap.size w2 (w2.alloc (.cells #[.int .i64 4, .int .i64 n] 39)) := (Below.refl _ _).alloc (Nat.le_refl _) _; have hb3 := hb2.trans (hn3.mono hb2.size); have bN := Blk.new w2 39 #[.int .i64 4, .int .i64 n]; have hnl := bN.lt; have hP3 := hP2.at hn3; obtain ⟨b0, b1, b2⟩ := HBX.out _ hb3)
      | (go_at_call 41; refine (HK.out _ hP3.body).mono ?_; rintro e w4 ⟨hb, A1, c1, rfl, hR4, -⟩; have hb4 := hb3.trans (hb.mono hb3.size); have bN4 := bN.below hb hnl; obtain ⟨n0, n1⟩ := bN4.two; have hnl4 := bN4.lt; have hP4 := hP3.at hb; obtain ⟨b0, b1, b2⟩ := HBX.out _ hb4)
      | (go_at_call 42; refine (HT.out _ hP4).mono ?_; rintro e w5 ⟨rfl, hb⟩; have hb5 := hb4.trans (hb.mono hb4.size); have bN5 := bN4.below hb hnl4; obtain ⟨n0, n1⟩ := bN5.two; have hP5 := hP4.at hb; have hR5 := hR4.at hb; obtain ⟨b0, b1, b2⟩ := HBX.out _ hb5)
      | (go_at_call 17; refine (HSZ.out _).mono ?_; rintro e w5 ⟨rfl, rfl⟩)
      | (go_at_call 44; have hn6 : Below w5.heap.size w5 (w5.alloc (.cells #[.int .i64 0] 3)) := (Below.refl _ _).alloc (Nat.le_refl _) _; refine (HALL.out _ _ _ _ (hP5.at hn6) (hR5.at hn6) (Blk.new w5 3 #[.int .i64 0])).mono ?_; rintro e w7 ⟨rfl, hb⟩; have hb7 := (hb5.trans (hn6.mono hb5.size)).trans (hb.mono (Nat.le_trans hb5.size hn6.size)))
      | (go_at_call 43; refine (HKD.out _ _ _).mono ?_; rintro e w8 ⟨rfl, rfl⟩))
    go_ret
    exact ⟨by rw [HF.out]; show Ending.returned (Value.int .i64 (ifso (b = true) 0)) = _; rw [← HBB.out, ifso_dec], hB0.trans (hb7.mono hB0.size)⟩
  · have HF := Lib.hid (show ifso (0 < z ∧ ks.map (okind vs xs) = [0]) 0 = -1 by unfold ifso; rw [if_neg (fun h => hz0 h.1)])
    go_enter Try.func20, Try.ntmps20
    go_wp2_with (first
      | (go_at_call 40; refine (HE.out _ HX.out.body).mono ?_; rintro e w2 ⟨rfl, hb2⟩; have hP2 := HX.out.at hb2; obtain ⟨a0, a1, a2⟩ := HBX.out _ hb2; obtain ⟨g0, g1⟩ := HBD.out _ hP2.body; have hn3 : Below w2.heap.size w2 (w2.alloc (.cells #[.int .i64 4, .int .i64 n] 39)) := (Below.refl _ _).alloc (Nat.le_refl _) _; have hb3 := hb2.trans (hn3.mono hb2.size); have bN := Blk.new w2 39 #[.int .i64 4, .int .i64 n]; have hnl := bN.lt; have hP3 := hP2.at hn3; obtain ⟨b0, b1, b2⟩ := HBX.out _ hb3)
      | (go_at_call 41; refine (HK.out _ hP3.body).mono ?_; rintro e w4 ⟨hb, A1, c1, rfl, hR4, -⟩; have hb4 := hb3.trans (hb.mono hb3.size); have bN4 := bN.below hb hnl; obtain ⟨n0, n1⟩ := bN4.two; have hnl4 := bN4.lt; have hP4 := hP3.at hb; obtain ⟨b0, b1, b2⟩ := HBX.out _ hb4)
      | (go_at_call 42; refine (HT.out _ hP4).mono ?_; rintro e w5 ⟨rfl, hb⟩; have hb5 := hb4.trans (hb.mono hb4.size); have bN5 := bN4.below hb hnl4; obtain ⟨n0, n1⟩ := bN5.two; have hP5 := hP4.at hb; have hR5 := hR4.at hb; obtain ⟨b0, b1, b2⟩ := HBX.out _ hb5)
      | (go_at_call 17; refine (HSZ.out _).mono ?_; rintro e w5 ⟨rfl, rfl⟩)
      | (go_at_call 43; refine (HKD.out _ _ _).mono ?_; rintro e w8 ⟨rfl, rfl⟩))
    go_ret
    exact ⟨by rw [HF.out]; rfl, hB0.trans (hb5.mono hB0.size)⟩
set_option maxRecDepth 100000 in
set_option maxHeartbeats 2000000 in
theorem of_5 (p : Prg) (k : Nat) (n : Int) (ks : List Int) (w : World) (hp : p.Ok w) (hN : NodeAt p k 5 n ks) (hA : Asks p ks) :
    Calls Try.prog 20 #[.agg #[.int .i64 p.ps, .slice p.A p.vs.length p.c, .slice p.B p.xs.length p.e], .int .i64 k] w fun e w' => e = .returned (.int .i64 (ifso (ks.map (okind p.vs p.xs) = [0]) 0)) ∧ Below w.heap.size w w' := by
  obtain ⟨ad, hB1, -, -, -⟩ := hp.body k _ hN.node
  obtain ⟨ps, A, c, vs, B, e, xs⟩ := p
  simp only at hB1
  subst hB1
  have hB0 : Below w.heap.size w (w.alloc (.cells #[.int .i64 ps, .slice A vs.length c, .slice (some ad) xs.length e] 25)) := (Below.refl _ _).alloc (Nat.le_refl _) _
  have bX := Blk.new w 25 #[.int .i64 ps, .slice A vs.length c, .slice (some ad) xs.length e]
  have hgl : w.heap.size < (w.alloc (.cells #[.int .i64 ps, .slice A vs.length c, .slice (some ad) xs.length e] 25)).heap.size := bX.lt
  have HBX := Lib.hid (fun W (h : Below (w.alloc (.cells #[.int .i64 ps, .slice A vs.length c, .slice (some ad) xs.length e] 25)).heap.size (w.alloc (.cells #[.int .i64 ps, .slice A vs.length c, .slice (some ad) xs.length e] 25)) W) => (bX.below h hgl).three)
  have HX := Lib.hid (hp.at hB0)
  have hlx : xs.length ≤ 1000000 := hp.lx
  obtain ⟨E, hE⟩ := Int.eq_ofNat_of_zero_le hN.ends
  have hks := hN.kids
  simp only at hE hks
  have HE := Lib.hid (fun W (hW : Nodes W W.heap.size (some ad) xs) => ref_End_any (some ad) e xs (k : Int) W hW hlx)
  rw [hE] at HE
  have HK := Lib.hid (fun W (hW : Nodes W W.heap.size (some ad) xs) => (ref_Kids_any (some ad) e xs (k : Int) W hW hlx).mono (fun _ _ h => h.ints))
  rw [hks] at HK
  have HT := Lib.hid (fun W (hW : Prg.Ok ⟨ps, A, c, vs, some ad, e, xs⟩ W) => ref_typed_any ⟨ps, A, c, vs, some ad, e, xs⟩ n W hW)
  have hn : xs[k]? = some (5, n) := hN.node
  have HBD := Lib.hid (fun W (hW : Nodes W W.heap.size (some ad) xs) => show W.cell? (ad.add (k * 2)) = some (.int .i64 5) ∧ W.cell? ⟨(ad.add (k * 2)).block, (ad.add (k * 2)).off + 1, none⟩ = some (.int .i64 n) from by
    obtain ⟨_, q, -, q1, q2⟩ := hW k _ hn
    cases q
    exact ⟨q1, q2⟩)
  have i1 : (k : Int) < (xs.length : Int) := by have := (List.getElem?_eq_some_iff.1 hn).1; omega
  have i2 : (0 : Int) ≤ (k : Int) := by omega
  have i3 : ¬ (E : Int) < 0 := by omega
  have HAS := Lib.hid hA
  obtain ⟨t, ht⟩ : ∃ t, vtyp vs n = t := ⟨_, rfl⟩
  simp only [ht] at HT
  clear hN hA hn hE hks hp bX ht
  obtain ⟨b0, b1, b2⟩ := HBX.out _ (Below.refl _ _)
  have HALL := Lib.hid (fun W A1 c1 g (hW : (⟨ps, A, c, vs, some ad, e, xs⟩ : Prg).Ok W) (hR : IRow W W.heap.size A1 ks) (hg : Blk W g 3 #[.int .i64 0]) => show Calls Try.prog 44 #[.agg #[.int .i64 ps, .slice A vs.length c, .slice (some ad) xs.length e], .slice A1 ks.length c1, .slice (some ⟨g, 0, none⟩) 1 1] W _ from ref_all_any (⟨ps, A, c, vs, some ad, e, xs⟩ : Prg) (okind vs xs) A1 c1 ks (some ⟨g, 0, none⟩) 1 [0] W hW HAS.out.of hR (IRow.one g [0] hg hg.lt) (by have := HAS.out.len; omega) (by decide))
  obtain ⟨b, hb0⟩ : ∃ b, decide (ks.map (okind vs xs) = [0]) = b := ⟨_, rfl⟩
  rw [hb0] at HALL
  have HBB := Lib.hid hb0
  clear hb0
  have HKD := Lib.hid (fun k W => ref_kind_any b k W)
  go_enter Try.func20, Try.ntmps20
  go_wp2_with (first
    | (go_at_call 40; refine (HE.out _ HX.out.body).mono ?_; rintro e w2 ⟨rfl, hb2⟩; have hP2 := HX.out.at hb2; obtain ⟨a0, a1, a2⟩ := HBX.out _ hb2; obtain ⟨g0, g1⟩ := HBD.out _ hP2.body; have hn3 : Below w2.heap.size w2 (w2.alloc (.cells #[.int .i64 5, .int .i64 n] 39)) := (Below.refl _ _).alloc (Nat.le_refl _) _; have hb3 := hb2.trans (hn3.mono hb2.size); have bN := Blk.new w2 39 #[.int .i64 5, .int .i64 n]; have hnl := bN.lt; have hP3 := hP2.at hn3; obtain ⟨b0, b1, b2⟩ := HBX.out _ hb3)
    | (go_at_call 41; refine (HK.out _ hP3.body).mono ?_; rintro e w4 ⟨hb, A1, c1, rfl, hR4, -⟩; have hb4 := hb3.trans (hb.mono hb3.size); have bN4 := bN.below hb hnl; obtain ⟨n0, n1⟩ := bN4.two; have hnl4 := bN4.lt; have hP4 := hP3.at hb; obtain ⟨b0, b1, b2⟩ := HBX.out _ hb4)
    | (go_at_call 42; refine (HT.out _ hP4).mono ?_; rintro e w5 ⟨rfl, hb⟩; have hb5 := hb4.trans (hb.mono hb4.size); have bN5 := bN4.below hb hnl4; obtain ⟨n0, n1⟩ := bN5.two; have hP5 := hP4.at hb; have hR5 := hR4.at hb; obtain ⟨b0, b1, b2⟩ := HBX.out _ hb5)
    | (go_at_call 44; have hn6 : Below w5.heap.size w5 (w5.alloc (.cells #[.int .i64 0] 3)) := (Below.refl _ _).alloc (Nat.le_refl _) _; refine (HALL.out _ _ _ _ (hP5.at hn6) (hR5.at hn6) (Blk.new w5 3 #[.int .i64 0])).mono ?_; rintro e w7 ⟨rfl, hb⟩; have hb7 := (hb5.trans (hn6.mono hb5.size)).trans (hb.mono (Nat.le_trans hb5.size hn6.size)))
    | (go_at_call 43; refine (HKD.out _ _).mono ?_; rintro e w8 ⟨rfl, rfl⟩))
  go_ret
  exact ⟨by show Ending.returned (Value.int .i64 (ifso (b = true) 0)) = _; rw [← HBB.out, ifso_dec], hB0.trans (hb7.mono hB0.size)⟩
set_option maxRecDepth 100000 in
set_option maxHeartbeats 2000000 in
theorem of_6 (p : Prg) (k : Nat) (n : Int) (ks : List Int) (w : World) (hp : p.Ok w) (hN : NodeAt p k 6 n ks) (hA : Asks p ks) :
    Calls Try.prog 20 #[.agg #[.int .i64 p.ps, .slice p.A p.vs.length p.c, .slice p.B p.xs.length p.e], .int .i64 k] w fun e w' => e = .returned (.int .i64 (ifso (ks.map (okind p.vs p.xs) = [1]) 1)) ∧ Below w.heap.size w w' := by
  obtain ⟨ad, hB1, -, -, -⟩ := hp.body k _ hN.node
  obtain ⟨ps, A, c, vs, B, e, xs⟩ := p
  simp only at hB1
  subst hB1
  have hB0 : Below w.heap.size w (w.alloc (.cells #[.int .i64 ps, .slice A vs.length c, .slice (some ad) xs.length e] 25)) := (Below.refl _ _).alloc (Nat.le_refl _) _
  have bX := Blk.new w 25 #[.int .i64 ps, .slice A vs.length c, .slice (some ad) xs.length e]
  have hgl : w.heap.size < (w.alloc (.cells #[.int .i64 ps, .slice A vs.length c, .slice (some ad) xs.length e] 25)).heap.size := bX.lt
  have HBX := Lib.hid (fun W (h : Below (w.alloc (.cells #[.int .i64 ps, .slice A vs.length c, .slice (some ad) xs.length e] 25)).heap.size (w.alloc (.cells #[.int .i64 ps, .slice A vs.length c, .slice (some ad) xs.length e] 25)) W) => (bX.below h hgl).three)
  have HX := Lib.hid (hp.at hB0)
  have hlx : xs.length ≤ 1000000 := hp.lx
  obtain ⟨E, hE⟩ := Int.eq_ofNat_of_zero_le hN.ends
  have hks := hN.kids
  simp only at hE hks
  have HE := Lib.hid (fun W (hW : Nodes W W.heap.size (some ad) xs) => ref_End_any (some ad) e xs (k : Int) W hW hlx)
  rw [hE] at HE
  have HK := Lib.hid (fun W (hW : Nodes W W.heap.size (some ad) xs) => (ref_Kids_any (some ad) e xs (k : Int) W hW hlx).mono (fun _ _ h => h.ints))
  rw [hks] at HK
  have HT := Lib.hid (fun W (hW : Prg.Ok ⟨ps, A, c, vs, some ad, e, xs⟩ W) => ref_typed_any ⟨ps, A, c, vs, some ad, e, xs⟩ n W hW)
  have hn : xs[k]? = some (6, n) := hN.node
  have HBD := Lib.hid (fun W (hW : Nodes W W.heap.size (some ad) xs) => show W.cell? (ad.add (k * 2)) = some (.int .i64 6) ∧ W.cell? ⟨(ad.add (k * 2)).block, (ad.add (k * 2)).off + 1, none⟩ = some (.int .i64 n) from by
    obtain ⟨_, q, -, q1, q2⟩ := hW k _ hn
    cases q
    exact ⟨q1, q2⟩)
  have i1 : (k : Int) < (xs.length : Int) := by have := (List.getElem?_eq_some_iff.1 hn).1; omega
  have i2 : (0 : Int) ≤ (k : Int) := by omega
  have i3 : ¬ (E : Int) < 0 := by omega
  have HAS := Lib.hid hA
  obtain ⟨t, ht⟩ : ∃ t, vtyp vs n = t := ⟨_, rfl⟩
  simp only [ht] at HT
  clear hN hA hn hE hks hp bX ht
  obtain ⟨b0, b1, b2⟩ := HBX.out _ (Below.refl _ _)
  have HALL := Lib.hid (fun W A1 c1 g (hW : (⟨ps, A, c, vs, some ad, e, xs⟩ : Prg).Ok W) (hR : IRow W W.heap.size A1 ks) (hg : Blk W g 3 #[.int .i64 1]) => show Calls Try.prog 44 #[.agg #[.int .i64 ps, .slice A vs.length c, .slice (some ad) xs.length e], .slice A1 ks.length c1, .slice (some ⟨g, 0, none⟩) 1 1] W _ from ref_all_any (⟨ps, A, c, vs, some ad, e, xs⟩ : Prg) (okind vs xs) A1 c1 ks (some ⟨g, 0, none⟩) 1 [1] W hW HAS.out.of hR (IRow.one g [1] hg hg.lt) (by have := HAS.out.len; omega) (by decide))
  obtain ⟨b, hb0⟩ : ∃ b, decide (ks.map (okind vs xs) = [1]) = b := ⟨_, rfl⟩
  rw [hb0] at HALL
  have HBB := Lib.hid hb0
  clear hb0
  have HKD := Lib.hid (fun k W => ref_kind_any b k W)
  go_enter Try.func20, Try.ntmps20
  go_wp2_with (first
    | (go_at_call 40; refine (HE.out _ HX.out.body).mono ?_; rintro e w2 ⟨rfl, hb2⟩; have hP2 := HX.out.at hb2; obtain ⟨a0, a1, a2⟩ := HBX.out _ hb2; obtain ⟨g0, g1⟩ := HBD.out _ hP2.body; have hn3 : Below w2.heap.size w2 (w2.alloc (.cells #[.int .i64 6, .int .i64 n] 39)) := (Below.refl _ _).alloc (Nat.le_refl _) _; have hb3 := hb2.trans (hn3.mono hb2.size); have bN := Blk.new w2 39 #[.int .i64 6, .int .i64 n]; have hnl := bN.lt; have hP3 := hP2.at hn3; obtain ⟨b0, b1, b2⟩ := HBX.out _ hb3)
    | (go_at_call 41; refine (HK.out _ hP3.body).mono ?_; rintro e w4 ⟨hb, A1, c1, rfl, hR4, -⟩; have hb4 := hb3.trans (hb.mono hb3.size); have bN4 := bN.below hb hnl; obtain ⟨n0, n1⟩ := bN4.two; have hnl4 := bN4.lt; have hP4 := hP3.at hb; obtain ⟨b0, b1, b2⟩ := HBX.out _ hb4)
    | (go_at_call 42; refine (HT.out _ hP4).mono ?_; rintro e w5 ⟨rfl, hb⟩; have hb5 := hb4.trans (hb.mono hb4.size); have bN5 := bN4.below hb hnl4; obtain ⟨n0, n1⟩ := bN5.two; have hP5 := hP4.at hb; have hR5 := hR4.at hb; obtain ⟨b0, b1, b2⟩ := HBX.out _ hb5)
    | (go_at_call 44; have hn6 : Below w5.heap.size w5 (w5.alloc (.cells #[.int .i64 1] 3)) := (Below.refl _ _).alloc (Nat.le_refl _) _; refine (HALL.out _ _ _ _ (hP5.at hn6) (hR5.at hn6) (Blk.new w5 3 #[.int .i64 1])).mono ?_; rintro e w7 ⟨rfl, hb⟩; have hb7 := (hb5.trans (hn6.mono hb5.size)).trans (hb.mono (Nat.le_trans hb5.size hn6.size)))
    | (go_at_call 43; refine (HKD.out _ _).mono ?_; rintro e w8 ⟨rfl, rfl⟩))
  go_ret
  exact ⟨by show Ending.returned (Value.int .i64 (ifso (b = true) 1)) = _; rw [← HBB.out, ifso_dec], hB0.trans (hb7.mono hB0.size)⟩
set_option maxRecDepth 100000 in
set_option maxHeartbeats 2000000 in
theorem of_7 (p : Prg) (k : Nat) (n : Int) (ks : List Int) (w : World) (hp : p.Ok w) (hN : NodeAt p k 7 n ks) (hA : Asks p ks) :
    Calls Try.prog 20 #[.agg #[.int .i64 p.ps, .slice p.A p.vs.length p.c, .slice p.B p.xs.length p.e], .int .i64 k] w fun e w' => e = .returned (.int .i64 (ifso (ks.map (okind p.vs p.xs) = [0, 0]) 0)) ∧ Below w.heap.size w w' := by
  obtain ⟨ad, hB1, -, -, -⟩ := hp.body k _ hN.node
  obtain ⟨ps, A, c, vs, B, e, xs⟩ := p
  simp only at hB1
  subst hB1
  have hB0 : Below w.heap.size w (w.alloc (.cells #[.int .i64 ps, .slice A vs.length c, .slice (some ad) xs.length e] 25)) := (Below.refl _ _).alloc (Nat.le_refl _) _
  have bX := Blk.new w 25 #[.int .i64 ps, .slice A vs.length c, .slice (some ad) xs.length e]
  have hgl : w.heap.size < (w.alloc (.cells #[.int .i64 ps, .slice A vs.length c, .slice (some ad) xs.length e] 25)).heap.size := bX.lt
  have HBX := Lib.hid (fun W (h : Below (w.alloc (.cells #[.int .i64 ps, .slice A vs.length c, .slice (some ad) xs.length e] 25)).heap.size (w.alloc (.cells #[.int .i64 ps, .slice A vs.length c, .slice (some ad) xs.length e] 25)) W) => (bX.below h hgl).three)
  have HX := Lib.hid (hp.at hB0)
  have hlx : xs.length ≤ 1000000 := hp.lx
  obtain ⟨E, hE⟩ := Int.eq_ofNat_of_zero_le hN.ends
  have hks := hN.kids
  simp only at hE hks
  have HE := Lib.hid (fun W (hW : Nodes W W.heap.size (some ad) xs) => ref_End_any (some ad) e xs (k : Int) W hW hlx)
  rw [hE] at HE
  have HK := Lib.hid (fun W (hW : Nodes W W.heap.size (some ad) xs) => (ref_Kids_any (some ad) e xs (k : Int) W hW hlx).mono (fun _ _ h => h.ints))
  rw [hks] at HK
  have HT := Lib.hid (fun W (hW : Prg.Ok ⟨ps, A, c, vs, some ad, e, xs⟩ W) => ref_typed_any ⟨ps, A, c, vs, some ad, e, xs⟩ n W hW)
  have hn : xs[k]? = some (7, n) := hN.node
  have HBD := Lib.hid (fun W (hW : Nodes W W.heap.size (some ad) xs) => show W.cell? (ad.add (k * 2)) = some (.int .i64 7) ∧ W.cell? ⟨(ad.add (k * 2)).block, (ad.add (k * 2)).off + 1, none⟩ = some (.int .i64 n) from by
    obtain ⟨_, q, -, q1, q2⟩ := hW k _ hn
    cases q
    exact ⟨q1, q2⟩)
  have i1 : (k : Int) < (xs.length : Int) := by have := (List.getElem?_eq_some_iff.1 hn).1; omega
  have i2 : (0 : Int) ≤ (k : Int) := by omega
  have i3 : ¬ (E : Int) < 0 := by omega
  have HAS := Lib.hid hA
  obtain ⟨t, ht⟩ : ∃ t, vtyp vs n = t := ⟨_, rfl⟩
  simp only [ht] at HT
  clear hN hA hn hE hks hp bX ht
  obtain ⟨b0, b1, b2⟩ := HBX.out _ (Below.refl _ _)
  have HALL := Lib.hid (fun W A1 c1 g (hW : (⟨ps, A, c, vs, some ad, e, xs⟩ : Prg).Ok W) (hR : IRow W W.heap.size A1 ks) (hg : Blk W g 3 #[.int .i64 0, .int .i64 0]) => show Calls Try.prog 44 #[.agg #[.int .i64 ps, .slice A vs.length c, .slice (some ad) xs.length e], .slice A1 ks.length c1, .slice (some ⟨g, 0, none⟩) 2 2] W _ from ref_all_any (⟨ps, A, c, vs, some ad, e, xs⟩ : Prg) (okind vs xs) A1 c1 ks (some ⟨g, 0, none⟩) 2 [0, 0] W hW HAS.out.of hR (IRow.one g [0, 0] hg hg.lt) (by have := HAS.out.len; omega) (by decide))
  obtain ⟨b, hb0⟩ : ∃ b, decide (ks.map (okind vs xs) = [0, 0]) = b := ⟨_, rfl⟩
  rw [hb0] at HALL
  have HBB := Lib.hid hb0
  clear hb0
  have HKD := Lib.hid (fun k W => ref_kind_any b k W)
  go_enter Try.func20, Try.ntmps20
  go_wp2_with (first
    | (go_at_call 40; refine (HE.out _ HX.out.body).mono ?_; rintro e w2 ⟨rfl, hb2⟩; have hP2 := HX.out.at hb2; obtain ⟨a0, a1, a2⟩ := HBX.out _ hb2; obtain ⟨g0, g1⟩ := HBD.out _ hP2.body; have hn3 : Below w2.heap.size w2 (w2.alloc (.cells #[.int .i64 7, .int .i64 n] 39)) := (Below.refl _ _).alloc (Nat.le_refl _) _; have hb3 := hb2.trans (hn3.mono hb2.size); have bN := Blk.new w2 39 #[.int .i64 7, .int .i64 n]; have hnl := bN.lt; have hP3 := hP2.at hn3; obtain ⟨b0, b1, b2⟩ := HBX.out _ hb3)
    | (go_at_call 41; refine (HK.out _ hP3.body).mono ?_; rintro e w4 ⟨hb, A1, c1, rfl, hR4, -⟩; have hb4 := hb3.trans (hb.mono hb3.size); have bN4 := bN.below hb hnl; obtain ⟨n0, n1⟩ := bN4.two; have hnl4 := bN4.lt; have hP4 := hP3.at hb; obtain ⟨b0, b1, b2⟩ := HBX.out _ hb4)
    | (go_at_call 42; refine (HT.out _ hP4).mono ?_; rintro e w5 ⟨rfl, hb⟩; have hb5 := hb4.trans (hb.mono hb4.size); have bN5 := bN4.below hb hnl4; obtain ⟨n0, n1⟩ := bN5.two; have hP5 := hP4.at hb; have hR5 := hR4.at hb; obtain ⟨b0, b1, b2⟩ := HBX.out _ hb5)
    | (go_at_call 44; have hn6 : Below w5.heap.size w5 (w5.alloc (.cells #[.int .i64 0, .int .i64 0] 3)) := (Below.refl _ _).alloc (Nat.le_refl _) _; refine (HALL.out _ _ _ _ (hP5.at hn6) (hR5.at hn6) (Blk.new w5 3 #[.int .i64 0, .int .i64 0])).mono ?_; rintro e w7 ⟨rfl, hb⟩; have hb7 := (hb5.trans (hn6.mono hb5.size)).trans (hb.mono (Nat.le_trans hb5.size hn6.size)))
    | (go_at_call 43; refine (HKD.out _ _).mono ?_; rintro e w8 ⟨rfl, rfl⟩))
  go_ret
  exact ⟨by show Ending.returned (Value.int .i64 (ifso (b = true) 0)) = _; rw [← HBB.out, ifso_dec], hB0.trans (hb7.mono hB0.size)⟩
set_option maxRecDepth 100000 in
set_option maxHeartbeats 2000000 in
theorem of_8 (p : Prg) (k : Nat) (n : Int) (ks : List Int) (w : World) (hp : p.Ok w) (hN : NodeAt p k 8 n ks) (hA : Asks p ks) :
    Calls Try.prog 20 #[.agg #[.int .i64 p.ps, .slice p.A p.vs.length p.c, .slice p.B p.xs.length p.e], .int .i64 k] w fun e w' => e = .returned (.int .i64 (ifso (ks.map (okind p.vs p.xs) = [0, 0]) 0)) ∧ Below w.heap.size w w' := by
  obtain ⟨ad, hB1, -, -, -⟩ := hp.body k _ hN.node
  obtain ⟨ps, A, c, vs, B, e, xs⟩ := p
  simp only at hB1
  subst hB1
  have hB0 : Below w.heap.size w (w.alloc (.cells #[.int .i64 ps, .slice A vs.length c, .slice (some ad) xs.length e] 25)) := (Below.refl _ _).alloc (Nat.le_refl _) _
  have bX := Blk.new w 25 #[.int .i64 ps, .slice A vs.length c, .slice (some ad) xs.length e]
  have hgl : w.heap.size < (w.alloc (.cells #[.int .i64 ps, .slice A vs.length c, .slice (some ad) xs.length e] 25)).heap.size := bX.lt
  have HBX := Lib.hid (fun W (h : Below (w.alloc (.cells #[.int .i64 ps, .slice A vs.length c, .slice (some ad) xs.length e] 25)).heap.size (w.alloc (.cells #[.int .i64 ps, .slice A vs.length c, .slice (some ad) xs.length e] 25)) W) => (bX.below h hgl).three)
  have HX := Lib.hid (hp.at hB0)
  have hlx : xs.length ≤ 1000000 := hp.lx
  obtain ⟨E, hE⟩ := Int.eq_ofNat_of_zero_le hN.ends
  have hks := hN.kids
  simp only at hE hks
  have HE := Lib.hid (fun W (hW : Nodes W W.heap.size (some ad) xs) => ref_End_any (some ad) e xs (k : Int) W hW hlx)
  rw [hE] at HE
  have HK := Lib.hid (fun W (hW : Nodes W W.heap.size (some ad) xs) => (ref_Kids_any (some ad) e xs (k : Int) W hW hlx).mono (fun _ _ h => h.ints))
  rw [hks] at HK
  have HT := Lib.hid (fun W (hW : Prg.Ok ⟨ps, A, c, vs, some ad, e, xs⟩ W) => ref_typed_any ⟨ps, A, c, vs, some ad, e, xs⟩ n W hW)
  have hn : xs[k]? = some (8, n) := hN.node
  have HBD := Lib.hid (fun W (hW : Nodes W W.heap.size (some ad) xs) => show W.cell? (ad.add (k * 2)) = some (.int .i64 8) ∧ W.cell? ⟨(ad.add (k * 2)).block, (ad.add (k * 2)).off + 1, none⟩ = some (.int .i64 n) from by
    obtain ⟨_, q, -, q1, q2⟩ := hW k _ hn
    cases q
    exact ⟨q1, q2⟩)
  have i1 : (k : Int) < (xs.length : Int) := by have := (List.getElem?_eq_some_iff.1 hn).1; omega
  have i2 : (0 : Int) ≤ (k : Int) := by omega
  have i3 : ¬ (E : Int) < 0 := by omega
  have HAS := Lib.hid hA
  obtain ⟨t, ht⟩ : ∃ t, vtyp vs n = t := ⟨_, rfl⟩
  simp only [ht] at HT
  clear hN hA hn hE hks hp bX ht
  obtain ⟨b0, b1, b2⟩ := HBX.out _ (Below.refl _ _)
  have HALL := Lib.hid (fun W A1 c1 g (hW : (⟨ps, A, c, vs, some ad, e, xs⟩ : Prg).Ok W) (hR : IRow W W.heap.size A1 ks) (hg : Blk W g 3 #[.int .i64 0, .int .i64 0]) => show Calls Try.prog 44 #[.agg #[.int .i64 ps, .slice A vs.length c, .slice (some ad) xs.length e], .slice A1 ks.length c1, .slice (some ⟨g, 0, none⟩) 2 2] W _ from ref_all_any (⟨ps, A, c, vs, some ad, e, xs⟩ : Prg) (okind vs xs) A1 c1 ks (some ⟨g, 0, none⟩) 2 [0, 0] W hW HAS.out.of hR (IRow.one g [0, 0] hg hg.lt) (by have := HAS.out.len; omega) (by decide))
  obtain ⟨b, hb0⟩ : ∃ b, decide (ks.map (okind vs xs) = [0, 0]) = b := ⟨_, rfl⟩
  rw [hb0] at HALL
  have HBB := Lib.hid hb0
  clear hb0
  have HKD := Lib.hid (fun k W => ref_kind_any b k W)
  go_enter Try.func20, Try.ntmps20
  go_wp2_with (first
    | (go_at_call 40; refine (HE.out _ HX.out.body).mono ?_; rintro e w2 ⟨rfl, hb2⟩; have hP2 := HX.out.at hb2; obtain ⟨a0, a1, a2⟩ := HBX.out _ hb2; obtain ⟨g0, g1⟩ := HBD.out _ hP2.body; have hn3 : Below w2.heap.size w2 (w2.alloc (.cells #[.int .i64 8, .int .i64 n] 39)) := (Below.refl _ _).alloc (Nat.le_refl _) _; have hb3 := hb2.trans (hn3.mono hb2.size); have bN := Blk.new w2 39 #[.int .i64 8, .int .i64 n]; have hnl := bN.lt; have hP3 := hP2.at hn3; obtain ⟨b0, b1, b2⟩ := HBX.out _ hb3)
    | (go_at_call 41; refine (HK.out _ hP3.body).mono ?_; rintro e w4 ⟨hb, A1, c1, rfl, hR4, -⟩; have hb4 := hb3.trans (hb.mono hb3.size); have bN4 := bN.below hb hnl; obtain ⟨n0, n1⟩ := bN4.two; have hnl4 := bN4.lt; have hP4 := hP3.at hb; obtain ⟨b0, b1, b2⟩ := HBX.out _ hb4)
    | (go_at_call 42; refine (HT.out _ hP4).mono ?_; rintro e w5 ⟨rfl, hb⟩; have hb5 := hb4.trans (hb.mono hb4.size); have bN5 := bN4.below hb hnl4; obtain ⟨n0, n1⟩ := bN5.two; have hP5 := hP4.at hb; have hR5 := hR4.at hb; obtain ⟨b0, b1, b2⟩ := HBX.out _ hb5)
    | (go_at_call 44; have hn6 : Below w5.heap.size w5 (w5.alloc (.cells #[.int .i64 0, .int .i64 0] 3)) := (Below.refl _ _).alloc (Nat.le_refl _) _; refine (HALL.out _ _ _ _ (hP5.at hn6) (hR5.at hn6) (Blk.new w5 3 #[.int .i64 0, .int .i64 0])).mono ?_; rintro e w7 ⟨rfl, hb⟩; have hb7 := (hb5.trans (hn6.mono hb5.size)).trans (hb.mono (Nat.le_trans hb5.size hn6.size)))
    | (go_at_call 43; refine (HKD.out _ _).mono ?_; rintro e w8 ⟨rfl, rfl⟩))
  go_ret
  exact ⟨by show Ending.returned (Value.int .i64 (ifso (b = true) 0)) = _; rw [← HBB.out, ifso_dec], hB0.trans (hb7.mono hB0.size)⟩
set_option maxRecDepth 100000 in
set_option maxHeartbeats 2000000 in
theorem of_9 (p : Prg) (k : Nat) (n : Int) (ks : List Int) (w : World) (hp : p.Ok w) (hN : NodeAt p k 9 n ks) (hA : Asks p ks) :
    Calls Try.prog 20 #[.agg #[.int .i64 p.ps, .slice p.A p.vs.length p.c, .slice p.B p.xs.length p.e], .int .i64 k] w fun e w' => e = .returned (.int .i64 (ifso (ks.map (okind p.vs p.xs) = [0, 0]) 0)) ∧ Below w.heap.size w w' := by
  obtain ⟨ad, hB1, -, -, -⟩ := hp.body k _ hN.node
  obtain ⟨ps, A, c, vs, B, e, xs⟩ := p
  simp only at hB1
  subst hB1
  have hB0 : Below w.heap.size w (w.alloc (.cells #[.int .i64 ps, .slice A vs.length c, .slice (some ad) xs.length e] 25)) := (Below.refl _ _).alloc (Nat.le_refl _) _
  have bX := Blk.new w 25 #[.int .i64 ps, .slice A vs.length c, .slice (some ad) xs.length e]
  have hgl : w.heap.size < (w.alloc (.cells #[.int .i64 ps, .slice A vs.length c, .slice (some ad) xs.length e] 25)).heap.size := bX.lt
  have HBX := Lib.hid (fun W (h : Below (w.alloc (.cells #[.int .i64 ps, .slice A vs.length c, .slice (some ad) xs.length e] 25)).heap.size (w.alloc (.cells #[.int .i64 ps, .slice A vs.length c, .slice (some ad) xs.length e] 25)) W) => (bX.below h hgl).three)
  have HX := Lib.hid (hp.at hB0)
  have hlx : xs.length ≤ 1000000 := hp.lx
  obtain ⟨E, hE⟩ := Int.eq_ofNat_of_zero_le hN.ends
  have hks := hN.kids
  simp only at hE hks
  have HE := Lib.hid (fun W (hW : Nodes W W.heap.size (some ad) xs) => ref_End_any (some ad) e xs (k : Int) W hW hlx)
  rw [hE] at HE
  have HK := Lib.hid (fun W (hW : Nodes W W.heap.size (some ad) xs) => (ref_Kids_any (some ad) e xs (k : Int) W hW hlx).mono (fun _ _ h => h.ints))
  rw [hks] at HK
  have HT := Lib.hid (fun W (hW : Prg.Ok ⟨ps, A, c, vs, some ad, e, xs⟩ W) => ref_typed_any ⟨ps, A, c, vs, some ad, e, xs⟩ n W hW)
  have hn : xs[k]? = some (9, n) := hN.node
  have HBD := Lib.hid (fun W (hW : Nodes W W.heap.size (some ad) xs) => show W.cell? (ad.add (k * 2)) = some (.int .i64 9) ∧ W.cell? ⟨(ad.add (k * 2)).block, (ad.add (k * 2)).off + 1, none⟩ = some (.int .i64 n) from by
    obtain ⟨_, q, -, q1, q2⟩ := hW k _ hn
    cases q
    exact ⟨q1, q2⟩)
  have i1 : (k : Int) < (xs.length : Int) := by have := (List.getElem?_eq_some_iff.1 hn).1; omega
  have i2 : (0 : Int) ≤ (k : Int) := by omega
  have i3 : ¬ (E : Int) < 0 := by omega
  have HAS := Lib.hid hA
  obtain ⟨t, ht⟩ : ∃ t, vtyp vs n = t := ⟨_, rfl⟩
  simp only [ht] at HT
  clear hN hA hn hE hks hp bX ht
  obtain ⟨b0, b1, b2⟩ := HBX.out _ (Below.refl _ _)
  have HALL := Lib.hid (fun W A1 c1 g (hW : (⟨ps, A, c, vs, some ad, e, xs⟩ : Prg).Ok W) (hR : IRow W W.heap.size A1 ks) (hg : Blk W g 3 #[.int .i64 0, .int .i64 0]) => show Calls Try.prog 44 #[.agg #[.int .i64 ps, .slice A vs.length c, .slice (some ad) xs.length e], .slice A1 ks.length c1, .slice (some ⟨g, 0, none⟩) 2 2] W _ from ref_all_any (⟨ps, A, c, vs, some ad, e, xs⟩ : Prg) (okind vs xs) A1 c1 ks (some ⟨g, 0, none⟩) 2 [0, 0] W hW HAS.out.of hR (IRow.one g [0, 0] hg hg.lt) (by have := HAS.out.len; omega) (by decide))
  obtain ⟨b, hb0⟩ : ∃ b, decide (ks.map (okind vs xs) = [0, 0]) = b := ⟨_, rfl⟩
  rw [hb0] at HALL
  have HBB := Lib.hid hb0
  clear hb0
  have HKD := Lib.hid (fun k W => ref_kind_any b k W)
  go_enter Try.func20, Try.ntmps20
  go_wp2_with (first
    | (go_at_call 40; refine (HE.out _ HX.out.body).mono ?_; rintro e w2 ⟨rfl, hb2⟩; have hP2 := HX.out.at hb2; obtain ⟨a0, a1, a2⟩ := HBX.out _ hb2; obtain ⟨g0, g1⟩ := HBD.out _ hP2.body; have hn3 : Below w2.heap.size w2 (w2.alloc (.cells #[.int .i64 9, .int .i64 n] 39)) := (Below.refl _ _).alloc (Nat.le_refl _) _; have hb3 := hb2.trans (hn3.mono hb2.size); have bN := Blk.new w2 39 #[.int .i64 9, .int .i64 n]; have hnl := bN.lt; have hP3 := hP2.at hn3; obtain ⟨b0, b1, b2⟩ := HBX.out _ hb3)
    | (go_at_call 41; refine (HK.out _ hP3.body).mono ?_; rintro e w4 ⟨hb, A1, c1, rfl, hR4, -⟩; have hb4 := hb3.trans (hb.mono hb3.size); have bN4 := bN.below hb hnl; obtain ⟨n0, n1⟩ := bN4.two; have hnl4 := bN4.lt; have hP4 := hP3.at hb; obtain ⟨b0, b1, b2⟩ := HBX.out _ hb4)
    | (go_at_call 42; refine (HT.out _ hP4).mono ?_; rintro e w5 ⟨rfl, hb⟩; have hb5 := hb4.trans (hb.mono hb4.size); have bN5 := bN4.below hb hnl4; obtain ⟨n0, n1⟩ := bN5.two; have hP5 := hP4.at hb; have hR5 := hR4.at hb; obtain ⟨b0, b1, b2⟩ := HBX.out _ hb5)
    | (go_at_call 44; have hn6 : Below w5.heap.size w5 (w5.alloc (.cells #[.int .i64 0, .int .i64 0] 3)) := (Below.refl _ _).alloc (Nat.le_refl _) _; refine (HALL.out _ _ _ _ (hP5.at hn6) (hR5.at hn6) (Blk.new w5 3 #[.int .i64 0, .int .i64 0])).mono ?_; rintro e w7 ⟨rfl, hb⟩; have hb7 := (hb5.trans (hn6.mono hb5.size)).trans (hb.mono (Nat.le_trans hb5.size hn6.size)))
    | (go_at_call 43; refine (HKD.out _ _).mono ?_; rintro e w8 ⟨rfl, rfl⟩))
  go_ret
  exact ⟨by show Ending.returned (Value.int .i64 (ifso (b = true) 0)) = _; rw [← HBB.out, ifso_dec], hB0.trans (hb7.mono hB0.size)⟩
set_option maxRecDepth 100000 in
set_option maxHeartbeats 2000000 in
theorem of_10 (p : Prg) (k : Nat) (n : Int) (ks : List Int) (w : World) (hp : p.Ok w) (hN : NodeAt p k 10 n ks) (hA : Asks p ks) :
    Calls Try.prog 20 #[.agg #[.int .i64 p.ps, .slice p.A p.vs.length p.c, .slice p.B p.xs.length p.e], .int .i64 k] w fun e w' => e = .returned (.int .i64 (ifso (ks.map (okind p.vs p.xs) = [0, 0]) 0)) ∧ Below w.heap.size w w' := by
  obtain ⟨ad, hB1, -, -, -⟩ := hp.body k _ hN.node
  obtain ⟨ps, A, c, vs, B, e, xs⟩ := p
  simp only at hB1
  subst hB1
  have hB0 : Below w.heap.size w (w.alloc (.cells #[.int .i64 ps, .slice A vs.length c, .slice (some ad) xs.length e] 25)) := (Below.refl _ _).alloc (Nat.le_refl _) _
  have bX := Blk.new w 25 #[.int .i64 ps, .slice A vs.length c, .slice (some ad) xs.length e]
  have hgl : w.heap.size < (w.alloc (.cells #[.int .i64 ps, .slice A vs.length c, .slice (some ad) xs.length e] 25)).heap.size := bX.lt
  have HBX := Lib.hid (fun W (h : Below (w.alloc (.cells #[.int .i64 ps, .slice A vs.length c, .slice (some ad) xs.length e] 25)).heap.size (w.alloc (.cells #[.int .i64 ps, .slice A vs.length c, .slice (some ad) xs.length e] 25)) W) => (bX.below h hgl).three)
  have HX := Lib.hid (hp.at hB0)
  have hlx : xs.length ≤ 1000000 := hp.lx
  obtain ⟨E, hE⟩ := Int.eq_ofNat_of_zero_le hN.ends
  have hks := hN.kids
  simp only at hE hks
  have HE := Lib.hid (fun W (hW : Nodes W W.heap.size (some ad) xs) => ref_End_any (some ad) e xs (k : Int) W hW hlx)
  rw [hE] at HE
  have HK := Lib.hid (fun W (hW : Nodes W W.heap.size (some ad) xs) => (ref_Kids_any (some ad) e xs (k : Int) W hW hlx).mono (fun _ _ h => h.ints))
  rw [hks] at HK
  have HT := Lib.hid (fun W (hW : Prg.Ok ⟨ps, A, c, vs, some ad, e, xs⟩ W) => ref_typed_any ⟨ps, A, c, vs, some ad, e, xs⟩ n W hW)
  have hn : xs[k]? = some (10, n) := hN.node
  have HBD := Lib.hid (fun W (hW : Nodes W W.heap.size (some ad) xs) => show W.cell? (ad.add (k * 2)) = some (.int .i64 10) ∧ W.cell? ⟨(ad.add (k * 2)).block, (ad.add (k * 2)).off + 1, none⟩ = some (.int .i64 n) from by
    obtain ⟨_, q, -, q1, q2⟩ := hW k _ hn
    cases q
    exact ⟨q1, q2⟩)
  have i1 : (k : Int) < (xs.length : Int) := by have := (List.getElem?_eq_some_iff.1 hn).1; omega
  have i2 : (0 : Int) ≤ (k : Int) := by omega
  have i3 : ¬ (E : Int) < 0 := by omega
  have HAS := Lib.hid hA
  obtain ⟨t, ht⟩ : ∃ t, vtyp vs n = t := ⟨_, rfl⟩
  simp only [ht] at HT
  clear hN hA hn hE hks hp bX ht
  obtain ⟨b0, b1, b2⟩ := HBX.out _ (Below.refl _ _)
  have HALL := Lib.hid (fun W A1 c1 g (hW : (⟨ps, A, c, vs, some ad, e, xs⟩ : Prg).Ok W) (hR : IRow W W.heap.size A1 ks) (hg : Blk W g 3 #[.int .i64 0, .int .i64 0]) => show Calls Try.prog 44 #[.agg #[.int .i64 ps, .slice A vs.length c, .slice (some ad) xs.length e], .slice A1 ks.length c1, .slice (some ⟨g, 0, none⟩) 2 2] W _ from ref_all_any (⟨ps, A, c, vs, some ad, e, xs⟩ : Prg) (okind vs xs) A1 c1 ks (some ⟨g, 0, none⟩) 2 [0, 0] W hW HAS.out.of hR (IRow.one g [0, 0] hg hg.lt) (by have := HAS.out.len; omega) (by decide))
  obtain ⟨b, hb0⟩ : ∃ b, decide (ks.map (okind vs xs) = [0, 0]) = b := ⟨_, rfl⟩
  rw [hb0] at HALL
  have HBB := Lib.hid hb0
  clear hb0
  have HKD := Lib.hid (fun k W => ref_kind_any b k W)
  go_enter Try.func20, Try.ntmps20
  go_wp2_with (first
    | (go_at_call 40; refine (HE.out _ HX.out.body).mono ?_; rintro e w2 ⟨rfl, hb2⟩; have hP2 := HX.out.at hb2; obtain ⟨a0, a1, a2⟩ := HBX.out _ hb2; obtain ⟨g0, g1⟩ := HBD.out _ hP2.body; have hn3 : Below w2.heap.size w2 (w2.alloc (.cells #[.int .i64 10, .int .i64 n] 39)) := (Below.refl _ _).alloc (Nat.le_refl _) _; have hb3 := hb2.trans (hn3.mono hb2.size); have bN := Blk.new w2 39 #[.int .i64 10, .int .i64 n]; have hnl := bN.lt; have hP3 := hP2.at hn3; obtain ⟨b0, b1, b2⟩ := HBX.out _ hb3)
    | (go_at_call 41; refine (HK.out _ hP3.body).mono ?_; rintro e w4 ⟨hb, A1, c1, rfl, hR4, -⟩; have hb4 := hb3.trans (hb.mono hb3.size); have bN4 := bN.below hb hnl; obtain ⟨n0, n1⟩ := bN4.two; have hnl4 := bN4.lt; have hP4 := hP3.at hb; obtain ⟨b0, b1, b2⟩ := HBX.out _ hb4)
    | (go_at_call 42; refine (HT.out _ hP4).mono ?_; rintro e w5 ⟨rfl, hb⟩; have hb5 := hb4.trans (hb.mono hb4.size); have bN5 := bN4.below hb hnl4; obtain ⟨n0, n1⟩ := bN5.two; have hP5 := hP4.at hb; have hR5 := hR4.at hb; obtain ⟨b0, b1, b2⟩ := HBX.out _ hb5)
    | (go_at_call 44; have hn6 : Below w5.heap.size w5 (w5.alloc (.cells #[.int .i64 0, .int .i64 0] 3)) := (Below.refl _ _).alloc (Nat.le_refl _) _; refine (HALL.out _ _ _ _ (hP5.at hn6) (hR5.at hn6) (Blk.new w5 3 #[.int .i64 0, .int .i64 0])).mono ?_; rintro e w7 ⟨rfl, hb⟩; have hb7 := (hb5.trans (hn6.mono hb5.size)).trans (hb.mono (Nat.le_trans hb5.size hn6.size)))
    | (go_at_call 43; refine (HKD.out _ _).mono ?_; rintro e w8 ⟨rfl, rfl⟩))
  go_ret
  exact ⟨by show Ending.returned (Value.int .i64 (ifso (b = true) 0)) = _; rw [← HBB.out, ifso_dec], hB0.trans (hb7.mono hB0.size)⟩
set_option maxRecDepth 100000 in
set_option maxHeartbeats 2000000 in
theorem of_11 (p : Prg) (k : Nat) (n : Int) (ks : List Int) (w : World) (hp : p.Ok w) (hN : NodeAt p k 11 n ks) (hA : Asks p ks) :
    Calls Try.prog 20 #[.agg #[.int .i64 p.ps, .slice p.A p.vs.length p.c, .slice p.B p.xs.length p.e], .int .i64 k] w fun e w' => e = .returned (.int .i64 (ifso (ks.map (okind p.vs p.xs) = [0, 0]) 0)) ∧ Below w.heap.size w w' := by
  obtain ⟨ad, hB1, -, -, -⟩ := hp.body k _ hN.node
  obtain ⟨ps, A, c, vs, B, e, xs⟩ := p
  simp only at hB1
  subst hB1
  have hB0 : Below w.heap.size w (w.alloc (.cells #[.int .i64 ps, .slice A vs.length c, .slice (some ad) xs.length e] 25)) := (Below.refl _ _).alloc (Nat.le_refl _) _
  have bX := Blk.new w 25 #[.int .i64 ps, .slice A vs.length c, .slice (some ad) xs.length e]
  have hgl : w.heap.size < (w.alloc (.cells #[.int .i64 ps, .slice A vs.length c, .slice (some ad) xs.length e] 25)).heap.size := bX.lt
  have HBX := Lib.hid (fun W (h : Below (w.alloc (.cells #[.int .i64 ps, .slice A vs.length c, .slice (some ad) xs.length e] 25)).heap.size (w.alloc (.cells #[.int .i64 ps, .slice A vs.length c, .slice (some ad) xs.length e] 25)) W) => (bX.below h hgl).three)
  have HX := Lib.hid (hp.at hB0)
  have hlx : xs.length ≤ 1000000 := hp.lx
  obtain ⟨E, hE⟩ := Int.eq_ofNat_of_zero_le hN.ends
  have hks := hN.kids
  simp only at hE hks
  have HE := Lib.hid (fun W (hW : Nodes W W.heap.size (some ad) xs) => ref_End_any (some ad) e xs (k : Int) W hW hlx)
  rw [hE] at HE
  have HK := Lib.hid (fun W (hW : Nodes W W.heap.size (some ad) xs) => (ref_Kids_any (some ad) e xs (k : Int) W hW hlx).mono (fun _ _ h => h.ints))
  rw [hks] at HK
  have HT := Lib.hid (fun W (hW : Prg.Ok ⟨ps, A, c, vs, some ad, e, xs⟩ W) => ref_typed_any ⟨ps, A, c, vs, some ad, e, xs⟩ n W hW)
  have hn : xs[k]? = some (11, n) := hN.node
  have HBD := Lib.hid (fun W (hW : Nodes W W.heap.size (some ad) xs) => show W.cell? (ad.add (k * 2)) = some (.int .i64 11) ∧ W.cell? ⟨(ad.add (k * 2)).block, (ad.add (k * 2)).off + 1, none⟩ = some (.int .i64 n) from by
    obtain ⟨_, q, -, q1, q2⟩ := hW k _ hn
    cases q
    exact ⟨q1, q2⟩)
  have i1 : (k : Int) < (xs.length : Int) := by have := (List.getElem?_eq_some_iff.1 hn).1; omega
  have i2 : (0 : Int) ≤ (k : Int) := by omega
  have i3 : ¬ (E : Int) < 0 := by omega
  have HAS := Lib.hid hA
  obtain ⟨t, ht⟩ : ∃ t, vtyp vs n = t := ⟨_, rfl⟩
  simp only [ht] at HT
  clear hN hA hn hE hks hp bX ht
  obtain ⟨b0, b1, b2⟩ := HBX.out _ (Below.refl _ _)
  have HALL := Lib.hid (fun W A1 c1 g (hW : (⟨ps, A, c, vs, some ad, e, xs⟩ : Prg).Ok W) (hR : IRow W W.heap.size A1 ks) (hg : Blk W g 3 #[.int .i64 0, .int .i64 0]) => show Calls Try.prog 44 #[.agg #[.int .i64 ps, .slice A vs.length c, .slice (some ad) xs.length e], .slice A1 ks.length c1, .slice (some ⟨g, 0, none⟩) 2 2] W _ from ref_all_any (⟨ps, A, c, vs, some ad, e, xs⟩ : Prg) (okind vs xs) A1 c1 ks (some ⟨g, 0, none⟩) 2 [0, 0] W hW HAS.out.of hR (IRow.one g [0, 0] hg hg.lt) (by have := HAS.out.len; omega) (by decide))
  obtain ⟨b, hb0⟩ : ∃ b, decide (ks.map (okind vs xs) = [0, 0]) = b := ⟨_, rfl⟩
  rw [hb0] at HALL
  have HBB := Lib.hid hb0
  clear hb0
  have HKD := Lib.hid (fun k W => ref_kind_any b k W)
  go_enter Try.func20, Try.ntmps20
  go_wp2_with (first
    | (go_at_call 40; refine (HE.out _ HX.out.body).mono ?_; rintro e w2 ⟨rfl, hb2⟩; have hP2 := HX.out.at hb2; obtain ⟨a0, a1, a2⟩ := HBX.out _ hb2; obtain ⟨g0, g1⟩ := HBD.out _ hP2.body; have hn3 : Below w2.heap.size w2 (w2.alloc (.cells #[.int .i64 11, .int .i64 n] 39)) := (Below.refl _ _).alloc (Nat.le_refl _) _; have hb3 := hb2.trans (hn3.mono hb2.size); have bN := Blk.new w2 39 #[.int .i64 11, .int .i64 n]; have hnl := bN.lt; have hP3 := hP2.at hn3; obtain ⟨b0, b1, b2⟩ := HBX.out _ hb3)
    | (go_at_call 41; refine (HK.out _ hP3.body).mono ?_; rintro e w4 ⟨hb, A1, c1, rfl, hR4, -⟩; have hb4 := hb3.trans (hb.mono hb3.size); have bN4 := bN.below hb hnl; obtain ⟨n0, n1⟩ := bN4.two; have hnl4 := bN4.lt; have hP4 := hP3.at hb; obtain ⟨b0, b1, b2⟩ := HBX.out _ hb4)
    | (go_at_call 42; refine (HT.out _ hP4).mono ?_; rintro e w5 ⟨rfl, hb⟩; have hb5 := hb4.trans (hb.mono hb4.size); have bN5 := bN4.below hb hnl4; obtain ⟨n0, n1⟩ := bN5.two; have hP5 := hP4.at hb; have hR5 := hR4.at hb; obtain ⟨b0, b1, b2⟩ := HBX.out _ hb5)
    | (go_at_call 44; have hn6 : Below w5.heap.size w5 (w5.alloc (.cells #[.int .i64 0, .int .i64 0] 3)) := (Below.refl _ _).alloc (Nat.le_refl _) _; refine (HALL.out _ _ _ _ (hP5.at hn6) (hR5.at hn6) (Blk.new w5 3 #[.int .i64 0, .int .i64 0])).mono ?_; rintro e w7 ⟨rfl, hb⟩; have hb7 := (hb5.trans (hn6.mono hb5.size)).trans (hb.mono (Nat.le_trans hb5.size hn6.size)))
    | (go_at_call 43; refine (HKD.out _ _).mono ?_; rintro e w8 ⟨rfl, rfl⟩))
  go_ret
  exact ⟨by show Ending.returned (Value.int .i64 (ifso (b = true) 0)) = _; rw [← HBB.out, ifso_dec], hB0.trans (hb7.mono hB0.size)⟩
set_option maxRecDepth 100000 in
set_option maxHeartbeats 2000000 in
theorem of_12 (p : Prg) (k : Nat) (n : Int) (ks : List Int) (w : World) (hp : p.Ok w) (hN : NodeAt p k 12 n ks) (hA : Asks p ks) :
    Calls Try.prog 20 #[.agg #[.int .i64 p.ps, .slice p.A p.vs.length p.c, .slice p.B p.xs.length p.e], .int .i64 k] w fun e w' => e = .returned (.int .i64 (ifso (ks.map (okind p.vs p.xs) = [0, 0]) 1)) ∧ Below w.heap.size w w' := by
  obtain ⟨ad, hB1, -, -, -⟩ := hp.body k _ hN.node
  obtain ⟨ps, A, c, vs, B, e, xs⟩ := p
  simp only at hB1
  subst hB1
  have hB0 : Below w.heap.size w (w.alloc (.cells #[.int .i64 ps, .slice A vs.length c, .slice (some ad) xs.length e] 25)) := (Below.refl _ _).alloc (Nat.le_refl _) _
  have bX := Blk.new w 25 #[.int .i64 ps, .slice A vs.length c, .slice (some ad) xs.length e]
  have hgl : w.heap.size < (w.alloc (.cells #[.int .i64 ps, .slice A vs.length c, .slice (some ad) xs.length e] 25)).heap.size := bX.lt
  have HBX := Lib.hid (fun W (h : Below (w.alloc (.cells #[.int .i64 ps, .slice A vs.length c, .slice (some ad) xs.length e] 25)).heap.size (w.alloc (.cells #[.int .i64 ps, .slice A vs.length c, .slice (some ad) xs.length e] 25)) W) => (bX.below h hgl).three)
  have HX := Lib.hid (hp.at hB0)
  have hlx : xs.length ≤ 1000000 := hp.lx
  obtain ⟨E, hE⟩ := Int.eq_ofNat_of_zero_le hN.ends
  have hks := hN.kids
  simp only at hE hks
  have HE := Lib.hid (fun W (hW : Nodes W W.heap.size (some ad) xs) => ref_End_any (some ad) e xs (k : Int) W hW hlx)
  rw [hE] at HE
  have HK := Lib.hid (fun W (hW : Nodes W W.heap.size (some ad) xs) => (ref_Kids_any (some ad) e xs (k : Int) W hW hlx).mono (fun _ _ h => h.ints))
  rw [hks] at HK
  have HT := Lib.hid (fun W (hW : Prg.Ok ⟨ps, A, c, vs, some ad, e, xs⟩ W) => ref_typed_any ⟨ps, A, c, vs, some ad, e, xs⟩ n W hW)
  have hn : xs[k]? = some (12, n) := hN.node
  have HBD := Lib.hid (fun W (hW : Nodes W W.heap.size (some ad) xs) => show W.cell? (ad.add (k * 2)) = some (.int .i64 12) ∧ W.cell? ⟨(ad.add (k * 2)).block, (ad.add (k * 2)).off + 1, none⟩ = some (.int .i64 n) from by
    obtain ⟨_, q, -, q1, q2⟩ := hW k _ hn
    cases q
    exact ⟨q1, q2⟩)
  have i1 : (k : Int) < (xs.length : Int) := by have := (List.getElem?_eq_some_iff.1 hn).1; omega
  have i2 : (0 : Int) ≤ (k : Int) := by omega
  have i3 : ¬ (E : Int) < 0 := by omega
  have HAS := Lib.hid hA
  obtain ⟨t, ht⟩ : ∃ t, vtyp vs n = t := ⟨_, rfl⟩
  simp only [ht] at HT
  clear hN hA hn hE hks hp bX ht
  obtain ⟨b0, b1, b2⟩ := HBX.out _ (Below.refl _ _)
  have HALL := Lib.hid (fun W A1 c1 g (hW : (⟨ps, A, c, vs, some ad, e, xs⟩ : Prg).Ok W) (hR : IRow W W.heap.size A1 ks) (hg : Blk W g 3 #[.int .i64 0, .int .i64 0]) => show Calls Try.prog 44 #[.agg #[.int .i64 ps, .slice A vs.length c, .slice (some ad) xs.length e], .slice A1 ks.length c1, .slice (some ⟨g, 0, none⟩) 2 2] W _ from ref_all_any (⟨ps, A, c, vs, some ad, e, xs⟩ : Prg) (okind vs xs) A1 c1 ks (some ⟨g, 0, none⟩) 2 [0, 0] W hW HAS.out.of hR (IRow.one g [0, 0] hg hg.lt) (by have := HAS.out.len; omega) (by decide))
  obtain ⟨b, hb0⟩ : ∃ b, decide (ks.map (okind vs xs) = [0, 0]) = b := ⟨_, rfl⟩
  rw [hb0] at HALL
  have HBB := Lib.hid hb0
  clear hb0
  have HKD := Lib.hid (fun k W => ref_kind_any b k W)
  go_enter Try.func20, Try.ntmps20
  go_wp2_with (first
    | (go_at_call 40; refine (HE.out _ HX.out.body).mono ?_; rintro e w2 ⟨rfl, hb2⟩; have hP2 := HX.out.at hb2; obtain ⟨a0, a1, a2⟩ := HBX.out _ hb2; obtain ⟨g0, g1⟩ := HBD.out _ hP2.body; have hn3 : Below w2.heap.size w2 (w2.alloc (.cells #[.int .i64 12, .int .i64 n] 39)) := (Below.refl _ _).alloc (Nat.le_refl _) _; have hb3 := hb2.trans (hn3.mono hb2.size); have bN := Blk.new w2 39 #[.int .i64 12, .int .i64 n]; have hnl := bN.lt; have hP3 := hP2.at hn3; obtain ⟨b0, b1, b2⟩ := HBX.out _ hb3)
    | (go_at_call 41; refine (HK.out _ hP3.body).mono ?_; rintro e w4 ⟨hb, A1, c1, rfl, hR4, -⟩; have hb4 := hb3.trans (hb.mono hb3.size); have bN4 := bN.below hb hnl; obtain ⟨n0, n1⟩ := bN4.two; have hnl4 := bN4.lt; have hP4 := hP3.at hb; obtain ⟨b0, b1, b2⟩ := HBX.out _ hb4)
    | (go_at_call 42; refine (HT.out _ hP4).mono ?_; rintro e w5 ⟨rfl, hb⟩; have hb5 := hb4.trans (hb.mono hb4.size); have bN5 := bN4.below hb hnl4; obtain ⟨n0, n1⟩ := bN5.two; have hP5 := hP4.at hb; have hR5 := hR4.at hb; obtain ⟨b0, b1, b2⟩ := HBX.out _ hb5)
    | (go_at_call 44; have hn6 : Below w5.heap.size w5 (w5.alloc (.cells #[.int .i64 0, .int .i64 0] 3)) := (Below.refl _ _).alloc (Nat.le_refl _) _; refine (HALL.out _ _ _ _ (hP5.at hn6) (hR5.at hn6) (Blk.new w5 3 #[.int .i64 0, .int .i64 0])).mono ?_; rintro e w7 ⟨rfl, hb⟩; have hb7 := (hb5.trans (hn6.mono hb5.size)).trans (hb.mono (Nat.le_trans hb5.size hn6.size)))
    | (go_at_call 43; refine (HKD.out _ _).mono ?_; rintro e w8 ⟨rfl, rfl⟩))
  go_ret
  exact ⟨by show Ending.returned (Value.int .i64 (ifso (b = true) 1)) = _; rw [← HBB.out, ifso_dec], hB0.trans (hb7.mono hB0.size)⟩
set_option maxRecDepth 100000 in
set_option maxHeartbeats 2000000 in
theorem of_13 (p : Prg) (k : Nat) (n : Int) (ks : List Int) (w : World) (hp : p.Ok w) (hN : NodeAt p k 13 n ks) (hA : Asks p ks) :
    Calls Try.prog 20 #[.agg #[.int .i64 p.ps, .slice p.A p.vs.length p.c, .slice p.B p.xs.length p.e], .int .i64 k] w fun e w' => e = .returned (.int .i64 (ifso (ks.map (okind p.vs p.xs) = [0, 0]) 1)) ∧ Below w.heap.size w w' := by
  obtain ⟨ad, hB1, -, -, -⟩ := hp.body k _ hN.node
  obtain ⟨ps, A, c, vs, B, e, xs⟩ := p
  simp only at hB1
  subst hB1
  have hB0 : Below w.heap.size w (w.alloc (.cells #[.int .i64 ps, .slice A vs.length c, .slice (some ad) xs.length e] 25)) := (Below.refl _ _).alloc (Nat.le_refl _) _
  have bX := Blk.new w 25 #[.int .i64 ps, .slice A vs.length c, .slice (some ad) xs.length e]
  have hgl : w.heap.size < (w.alloc (.cells #[.int .i64 ps, .slice A vs.length c, .slice (some ad) xs.length e] 25)).heap.size := bX.lt
  have HBX := Lib.hid (fun W (h : Below (w.alloc (.cells #[.int .i64 ps, .slice A vs.length c, .slice (some ad) xs.length e] 25)).heap.size (w.alloc (.cells #[.int .i64 ps, .slice A vs.length c, .slice (some ad) xs.length e] 25)) W) => (bX.below h hgl).three)
  have HX := Lib.hid (hp.at hB0)
  have hlx : xs.length ≤ 1000000 := hp.lx
  obtain ⟨E, hE⟩ := Int.eq_ofNat_of_zero_le hN.ends
  have hks := hN.kids
  simp only at hE hks
  have HE := Lib.hid (fun W (hW : Nodes W W.heap.size (some ad) xs) => ref_End_any (some ad) e xs (k : Int) W hW hlx)
  rw [hE] at HE
  have HK := Lib.hid (fun W (hW : Nodes W W.heap.size (some ad) xs) => (ref_Kids_any (some ad) e xs (k : Int) W hW hlx).mono (fun _ _ h => h.ints))
  rw [hks] at HK
  have HT := Lib.hid (fun W (hW : Prg.Ok ⟨ps, A, c, vs, some ad, e, xs⟩ W) => ref_typed_any ⟨ps, A, c, vs, some ad, e, xs⟩ n W hW)
  have hn : xs[k]? = some (13, n) := hN.node
  have HBD := Lib.hid (fun W (hW : Nodes W W.heap.size (some ad) xs) => show W.cell? (ad.add (k * 2)) = some (.int .i64 13) ∧ W.cell? ⟨(ad.add (k * 2)).block, (ad.add (k * 2)).off + 1, none⟩ = some (.int .i64 n) from by
    obtain ⟨_, q, -, q1, q2⟩ := hW k _ hn
    cases q
    exact ⟨q1, q2⟩)
  have i1 : (k : Int) < (xs.length : Int) := by have := (List.getElem?_eq_some_iff.1 hn).1; omega
  have i2 : (0 : Int) ≤ (k : Int) := by omega
  have i3 : ¬ (E : Int) < 0 := by omega
  have HAS := Lib.hid hA
  obtain ⟨t, ht⟩ : ∃ t, vtyp vs n = t := ⟨_, rfl⟩
  simp only [ht] at HT
  clear hN hA hn hE hks hp bX ht
  obtain ⟨b0, b1, b2⟩ := HBX.out _ (Below.refl _ _)
  have HALL := Lib.hid (fun W A1 c1 g (hW : (⟨ps, A, c, vs, some ad, e, xs⟩ : Prg).Ok W) (hR : IRow W W.heap.size A1 ks) (hg : Blk W g 3 #[.int .i64 0, .int .i64 0]) => show Calls Try.prog 44 #[.agg #[.int .i64 ps, .slice A vs.length c, .slice (some ad) xs.length e], .slice A1 ks.length c1, .slice (some ⟨g, 0, none⟩) 2 2] W _ from ref_all_any (⟨ps, A, c, vs, some ad, e, xs⟩ : Prg) (okind vs xs) A1 c1 ks (some ⟨g, 0, none⟩) 2 [0, 0] W hW HAS.out.of hR (IRow.one g [0, 0] hg hg.lt) (by have := HAS.out.len; omega) (by decide))
  obtain ⟨b, hb0⟩ : ∃ b, decide (ks.map (okind vs xs) = [0, 0]) = b := ⟨_, rfl⟩
  rw [hb0] at HALL
  have HBB := Lib.hid hb0
  clear hb0
  have HKD := Lib.hid (fun k W => ref_kind_any b k W)
  go_enter Try.func20, Try.ntmps20
  go_wp2_with (first
    | (go_at_call 40; refine (HE.out _ HX.out.body).mono ?_; rintro e w2 ⟨rfl, hb2⟩; have hP2 := HX.out.at hb2; obtain ⟨a0, a1, a2⟩ := HBX.out _ hb2; obtain ⟨g0, g1⟩ := HBD.out _ hP2.body; have hn3 : Below w2.heap.size w2 (w2.alloc (.cells #[.int .i64 13, .int .i64 n] 39)) := (Below.refl _ _).alloc (Nat.le_refl _) _; have hb3 := hb2.trans (hn3.mono hb2.size); have bN := Blk.new w2 39 #[.int .i64 13, .int .i64 n]; have hnl := bN.lt; have hP3 := hP2.at hn3; obtain ⟨b0, b1, b2⟩ := HBX.out _ hb3)
    | (go_at_call 41; refine (HK.out _ hP3.body).mono ?_; rintro e w4 ⟨hb, A1, c1, rfl, hR4, -⟩; have hb4 := hb3.trans (hb.mono hb3.size); have bN4 := bN.below hb hnl; obtain ⟨n0, n1⟩ := bN4.two; have hnl4 := bN4.lt; have hP4 := hP3.at hb; obtain ⟨b0, b1, b2⟩ := HBX.out _ hb4)
    | (go_at_call 42; refine (HT.out _ hP4).mono ?_; rintro e w5 ⟨rfl, hb⟩; have hb5 := hb4.trans (hb.mono hb4.size); have bN5 := bN4.below hb hnl4; obtain ⟨n0, n1⟩ := bN5.two; have hP5 := hP4.at hb; have hR5 := hR4.at hb; obtain ⟨b0, b1, b2⟩ := HBX.out _ hb5)
    | (go_at_call 44; have hn6 : Below w5.heap.size w5 (w5.alloc (.cells #[.int .i64 0, .int .i64 0] 3)) := (Below.refl _ _).alloc (Nat.le_refl _) _; refine (HALL.out _ _ _ _ (hP5.at hn6) (hR5.at hn6) (Blk.new w5 3 #[.int .i64 0, .int .i64 0])).mono ?_; rintro e w7 ⟨rfl, hb⟩; have hb7 := (hb5.trans (hn6.mono hb5.size)).trans (hb.mono (Nat.le_trans hb5.size hn6.size)))
    | (go_at_call 43; refine (HKD.out _ _).mono ?_; rintro e w8 ⟨rfl, rfl⟩))
  go_ret
  exact ⟨by show Ending.returned (Value.int .i64 (ifso (b = true) 1)) = _; rw [← HBB.out, ifso_dec], hB0.trans (hb7.mono hB0.size)⟩
set_option maxRecDepth 100000 in
set_option maxHeartbeats 2000000 in
theorem of_14 (p : Prg) (k : Nat) (n : Int) (ks : List Int) (w : World) (hp : p.Ok w) (hN : NodeAt p k 14 n ks) (hA : Asks p ks) :
    Calls Try.prog 20 #[.agg #[.int .i64 p.ps, .slice p.A p.vs.length p.c, .slice p.B p.xs.length p.e], .int .i64 k] w fun e w' => e = .returned (.int .i64 (ifso (ks.map (okind p.vs p.xs) = [0, 0]) 1)) ∧ Below w.heap.size w w' := by
  obtain ⟨ad, hB1, -, -, -⟩ := hp.body k _ hN.node
  obtain ⟨ps, A, c, vs, B, e, xs⟩ := p
  simp only at hB1
  subst hB1
  have hB0 : Below w.heap.size w (w.alloc (.cells #[.int .i64 ps, .slice A vs.length c, .slice (some ad) xs.length e] 25)) := (Below.refl _ _).alloc (Nat.le_refl _) _
  have bX := Blk.new w 25 #[.int .i64 ps, .slice A vs.length c, .slice (some ad) xs.length e]
  have hgl : w.heap.size < (w.alloc (.cells #[.int .i64 ps, .slice A vs.length c, .slice (some ad) xs.length e] 25)).heap.size := bX.lt
  have HBX := Lib.hid (fun W (h : Below (w.alloc (.cells #[.int .i64 ps, .slice A vs.length c, .slice (some ad) xs.length e] 25)).heap.size (w.alloc (.cells #[.int .i64 ps, .slice A vs.length c, .slice (some ad) xs.length e] 25)) W) => (bX.below h hgl).three)
  have HX := Lib.hid (hp.at hB0)
  have hlx : xs.length ≤ 1000000 := hp.lx
  obtain ⟨E, hE⟩ := Int.eq_ofNat_of_zero_le hN.ends
  have hks := hN.kids
  simp only at hE hks
  have HE := Lib.hid (fun W (hW : Nodes W W.heap.size (some ad) xs) => ref_End_any (some ad) e xs (k : Int) W hW hlx)
  rw [hE] at HE
  have HK := Lib.hid (fun W (hW : Nodes W W.heap.size (some ad) xs) => (ref_Kids_any (some ad) e xs (k : Int) W hW hlx).mono (fun _ _ h => h.ints))
  rw [hks] at HK
  have HT := Lib.hid (fun W (hW : Prg.Ok ⟨ps, A, c, vs, some ad, e, xs⟩ W) => ref_typed_any ⟨ps, A, c, vs, some ad, e, xs⟩ n W hW)
  have hn : xs[k]? = some (14, n) := hN.node
  have HBD := Lib.hid (fun W (hW : Nodes W W.heap.size (some ad) xs) => show W.cell? (ad.add (k * 2)) = some (.int .i64 14) ∧ W.cell? ⟨(ad.add (k * 2)).block, (ad.add (k * 2)).off + 1, none⟩ = some (.int .i64 n) from by
    obtain ⟨_, q, -, q1, q2⟩ := hW k _ hn
    cases q
    exact ⟨q1, q2⟩)
  have i1 : (k : Int) < (xs.length : Int) := by have := (List.getElem?_eq_some_iff.1 hn).1; omega
  have i2 : (0 : Int) ≤ (k : Int) := by omega
  have i3 : ¬ (E : Int) < 0 := by omega
  have HAS := Lib.hid hA
  obtain ⟨t, ht⟩ : ∃ t, vtyp vs n = t := ⟨_, rfl⟩
  simp only [ht] at HT
  clear hN hA hn hE hks hp bX ht
  obtain ⟨b0, b1, b2⟩ := HBX.out _ (Below.refl _ _)
  have HALL := Lib.hid (fun W A1 c1 g (hW : (⟨ps, A, c, vs, some ad, e, xs⟩ : Prg).Ok W) (hR : IRow W W.heap.size A1 ks) (hg : Blk W g 3 #[.int .i64 0, .int .i64 0]) => show Calls Try.prog 44 #[.agg #[.int .i64 ps, .slice A vs.length c, .slice (some ad) xs.length e], .slice A1 ks.length c1, .slice (some ⟨g, 0, none⟩) 2 2] W _ from ref_all_any (⟨ps, A, c, vs, some ad, e, xs⟩ : Prg) (okind vs xs) A1 c1 ks (some ⟨g, 0, none⟩) 2 [0, 0] W hW HAS.out.of hR (IRow.one g [0, 0] hg hg.lt) (by have := HAS.out.len; omega) (by decide))
  obtain ⟨b, hb0⟩ : ∃ b, decide (ks.map (okind vs xs) = [0, 0]) = b := ⟨_, rfl⟩
  rw [hb0] at HALL
  have HBB := Lib.hid hb0
  clear hb0
  have HKD := Lib.hid (fun k W => ref_kind_any b k W)
  go_enter Try.func20, Try.ntmps20
  go_wp2_with (first
    | (go_at_call 40; refine (HE.out _ HX.out.body).mono ?_; rintro e w2 ⟨rfl, hb2⟩; have hP2 := HX.out.at hb2; obtain ⟨a0, a1, a2⟩ := HBX.out _ hb2; obtain ⟨g0, g1⟩ := HBD.out _ hP2.body; have hn3 : Below w2.heap.size w2 (w2.alloc (.cells #[.int .i64 14, .int .i64 n] 39)) := (Below.refl _ _).alloc (Nat.le_refl _) _; have hb3 := hb2.trans (hn3.mono hb2.size); have bN := Blk.new w2 39 #[.int .i64 14, .int .i64 n]; have hnl := bN.lt; have hP3 := hP2.at hn3; obtain ⟨b0, b1, b2⟩ := HBX.out _ hb3)
    | (go_at_call 41; refine (HK.out _ hP3.body).mono ?_; rintro e w4 ⟨hb, A1, c1, rfl, hR4, -⟩; have hb4 := hb3.trans (hb.mono hb3.size); have bN4 := bN.below hb hnl; obtain ⟨n0, n1⟩ := bN4.two; have hnl4 := bN4.lt; have hP4 := hP3.at hb; obtain ⟨b0, b1, b2⟩ := HBX.out _ hb4)
    | (go_at_call 42; refine (HT.out _ hP4).mono ?_; rintro e w5 ⟨rfl, hb⟩; have hb5 := hb4.trans (hb.mono hb4.size); have bN5 := bN4.below hb hnl4; obtain ⟨n0, n1⟩ := bN5.two; have hP5 := hP4.at hb; have hR5 := hR4.at hb; obtain ⟨b0, b1, b2⟩ := HBX.out _ hb5)
    | (go_at_call 44; have hn6 : Below w5.heap.size w5 (w5.alloc (.cells #[.int .i64 0, .int .i64 0] 3)) := (Below.refl _ _).alloc (Nat.le_refl _) _; refine (HALL.out _ _ _ _ (hP5.at hn6) (hR5.at hn6) (Blk.new w5 3 #[.int .i64 0, .int .i64 0])).mono ?_; rintro e w7 ⟨rfl, hb⟩; have hb7 := (hb5.trans (hn6.mono hb5.size)).trans (hb.mono (Nat.le_trans hb5.size hn6.size)))
    | (go_at_call 43; refine (HKD.out _ _).mono ?_; rintro e w8 ⟨rfl, rfl⟩))
  go_ret
  exact ⟨by show Ending.returned (Value.int .i64 (ifso (b = true) 1)) = _; rw [← HBB.out, ifso_dec], hB0.trans (hb7.mono hB0.size)⟩
set_option maxRecDepth 100000 in
set_option maxHeartbeats 2000000 in
theorem of_15 (p : Prg) (k : Nat) (n : Int) (ks : List Int) (w : World) (hp : p.Ok w) (hN : NodeAt p k 15 n ks) (hA : Asks p ks) :
    Calls Try.prog 20 #[.agg #[.int .i64 p.ps, .slice p.A p.vs.length p.c, .slice p.B p.xs.length p.e], .int .i64 k] w fun e w' => e = .returned (.int .i64 (ifso (ks.map (okind p.vs p.xs) = [0, 0]) 1)) ∧ Below w.heap.size w w' := by
  obtain ⟨ad, hB1, -, -, -⟩ := hp.body k _ hN.node
  obtain ⟨ps, A, c, vs, B, e, xs⟩ := p
  simp only at hB1
  subst hB1
  have hB0 : Below w.heap.size w (w.alloc (.cells #[.int .i64 ps, .slice A vs.length c, .slice (some ad) xs.length e] 25)) := (Below.refl _ _).alloc (Nat.le_refl _) _
  have bX := Blk.new w 25 #[.int .i64 ps, .slice A vs.length c, .slice (some ad) xs.length e]
  have hgl : w.heap.size < (w.alloc (.cells #[.int .i64 ps, .slice A vs.length c, .slice (some ad) xs.length e] 25)).heap.size := bX.lt
  have HBX := Lib.hid (fun W (h : Below (w.alloc (.cells #[.int .i64 ps, .slice A vs.length c, .slice (some ad) xs.length e] 25)).heap.size (w.alloc (.cells #[.int .i64 ps, .slice A vs.length c, .slice (some ad) xs.length e] 25)) W) => (bX.below h hgl).three)
  have HX := Lib.hid (hp.at hB0)
  have hlx : xs.length ≤ 1000000 := hp.lx
  obtain ⟨E, hE⟩ := Int.eq_ofNat_of_zero_le hN.ends
  have hks := hN.kids
  simp only at hE hks
  have HE := Lib.hid (fun W (hW : Nodes W W.heap.size (some ad) xs) => ref_End_any (some ad) e xs (k : Int) W hW hlx)
  rw [hE] at HE
  have HK := Lib.hid (fun W (hW : Nodes W W.heap.size (some ad) xs) => (ref_Kids_any (some ad) e xs (k : Int) W hW hlx).mono (fun _ _ h => h.ints))
  rw [hks] at HK
  have HT := Lib.hid (fun W (hW : Prg.Ok ⟨ps, A, c, vs, some ad, e, xs⟩ W) => ref_typed_any ⟨ps, A, c, vs, some ad, e, xs⟩ n W hW)
  have hn : xs[k]? = some (15, n) := hN.node
  have HBD := Lib.hid (fun W (hW : Nodes W W.heap.size (some ad) xs) => show W.cell? (ad.add (k * 2)) = some (.int .i64 15) ∧ W.cell? ⟨(ad.add (k * 2)).block, (ad.add (k * 2)).off + 1, none⟩ = some (.int .i64 n) from by
    obtain ⟨_, q, -, q1, q2⟩ := hW k _ hn
    cases q
    exact ⟨q1, q2⟩)
  have i1 : (k : Int) < (xs.length : Int) := by have := (List.getElem?_eq_some_iff.1 hn).1; omega
  have i2 : (0 : Int) ≤ (k : Int) := by omega
  have i3 : ¬ (E : Int) < 0 := by omega
  have HAS := Lib.hid hA
  obtain ⟨t, ht⟩ : ∃ t, vtyp vs n = t := ⟨_, rfl⟩
  simp only [ht] at HT
  clear hN hA hn hE hks hp bX ht
  obtain ⟨b0, b1, b2⟩ := HBX.out _ (Below.refl _ _)
  have HALL := Lib.hid (fun W A1 c1 g (hW : (⟨ps, A, c, vs, some ad, e, xs⟩ : Prg).Ok W) (hR : IRow W W.heap.size A1 ks) (hg : Blk W g 3 #[.int .i64 0, .int .i64 0]) => show Calls Try.prog 44 #[.agg #[.int .i64 ps, .slice A vs.length c, .slice (some ad) xs.length e], .slice A1 ks.length c1, .slice (some ⟨g, 0, none⟩) 2 2] W _ from ref_all_any (⟨ps, A, c, vs, some ad, e, xs⟩ : Prg) (okind vs xs) A1 c1 ks (some ⟨g, 0, none⟩) 2 [0, 0] W hW HAS.out.of hR (IRow.one g [0, 0] hg hg.lt) (by have := HAS.out.len; omega) (by decide))
  obtain ⟨b, hb0⟩ : ∃ b, decide (ks.map (okind vs xs) = [0, 0]) = b := ⟨_, rfl⟩
  rw [hb0] at HALL
  have HBB := Lib.hid hb0
  clear hb0
  have HKD := Lib.hid (fun k W => ref_kind_any b k W)
  go_enter Try.func20, Try.ntmps20
  go_wp2_with (first
    | (go_at_call 40; refine (HE.out _ HX.out.body).mono ?_; rintro e w2 ⟨rfl, hb2⟩; have hP2 := HX.out.at hb2; obtain ⟨a0, a1, a2⟩ := HBX.out _ hb2; obtain ⟨g0, g1⟩ := HBD.out _ hP2.body; have hn3 : Below w2.heap.size w2 (w2.alloc (.cells #[.int .i64 15, .int .i64 n] 39)) := (Below.refl _ _).alloc (Nat.le_refl _) _; have hb3 := hb2.trans (hn3.mono hb2.size); have bN := Blk.new w2 39 #[.int .i64 15, .int .i64 n]; have hnl := bN.lt; have hP3 := hP2.at hn3; obtain ⟨b0, b1, b2⟩ := HBX.out _ hb3)
    | (go_at_call 41; refine (HK.out _ hP3.body).mono ?_; rintro e w4 ⟨hb, A1, c1, rfl, hR4, -⟩; have hb4 := hb3.trans (hb.mono hb3.size); have bN4 := bN.below hb hnl; obtain ⟨n0, n1⟩ := bN4.two; have hnl4 := bN4.lt; have hP4 := hP3.at hb; obtain ⟨b0, b1, b2⟩ := HBX.out _ hb4)
    | (go_at_call 42; refine (HT.out _ hP4).mono ?_; rintro e w5 ⟨rfl, hb⟩; have hb5 := hb4.trans (hb.mono hb4.size); have bN5 := bN4.below hb hnl4; obtain ⟨n0, n1⟩ := bN5.two; have hP5 := hP4.at hb; have hR5 := hR4.at hb; obtain ⟨b0, b1, b2⟩ := HBX.out _ hb5)
    | (go_at_call 44; have hn6 : Below w5.heap.size w5 (w5.alloc (.cells #[.int .i64 0, .int .i64 0] 3)) := (Below.refl _ _).alloc (Nat.le_refl _) _; refine (HALL.out _ _ _ _ (hP5.at hn6) (hR5.at hn6) (Blk.new w5 3 #[.int .i64 0, .int .i64 0])).mono ?_; rintro e w7 ⟨rfl, hb⟩; have hb7 := (hb5.trans (hn6.mono hb5.size)).trans (hb.mono (Nat.le_trans hb5.size hn6.size)))
    | (go_at_call 43; refine (HKD.out _ _).mono ?_; rintro e w8 ⟨rfl, rfl⟩))
  go_ret
  exact ⟨by show Ending.returned (Value.int .i64 (ifso (b = true) 1)) = _; rw [← HBB.out, ifso_dec], hB0.trans (hb7.mono hB0.size)⟩
set_option maxRecDepth 100000 in
set_option maxHeartbeats 2000000 in
theorem of_16 (p : Prg) (k : Nat) (n : Int) (ks : List Int) (w : World) (hp : p.Ok w) (hN : NodeAt p k 16 n ks) (hA : Asks p ks) :
    Calls Try.prog 20 #[.agg #[.int .i64 p.ps, .slice p.A p.vs.length p.c, .slice p.B p.xs.length p.e], .int .i64 k] w fun e w' => e = .returned (.int .i64 (ifso (ks.map (okind p.vs p.xs) = [0, 0]) 1)) ∧ Below w.heap.size w w' := by
  obtain ⟨ad, hB1, -, -, -⟩ := hp.body k _ hN.node
  obtain ⟨ps, A, c, vs, B, e, xs⟩ := p
  simp only at hB1
  subst hB1
  have hB0 : Below w.heap.size w (w.alloc (.cells #[.int .i64 ps, .slice A vs.length c, .slice (some ad) xs.length e] 25)) := (Below.refl _ _).alloc (Nat.le_refl _) _
  have bX := Blk.new w 25 #[.int .i64 ps, .slice A vs.length c, .slice (some ad) xs.length e]
  have hgl : w.heap.size < (w.alloc (.cells #[.int .i64 ps, .slice A vs.length c, .slice (some ad) xs.length e] 25)).heap.size := bX.lt
  have HBX := Lib.hid (fun W (h : Below (w.alloc (.cells #[.int .i64 ps, .slice A vs.length c, .slice (some ad) xs.length e] 25)).heap.size (w.alloc (.cells #[.int .i64 ps, .slice A vs.length c, .slice (some ad) xs.length e] 25)) W) => (bX.below h hgl).three)
  have HX := Lib.hid (hp.at hB0)
  have hlx : xs.length ≤ 1000000 := hp.lx
  obtain ⟨E, hE⟩ := Int.eq_ofNat_of_zero_le hN.ends
  have hks := hN.kids
  simp only at hE hks
  have HE := Lib.hid (fun W (hW : Nodes W W.heap.size (some ad) xs) => ref_End_any (some ad) e xs (k : Int) W hW hlx)
  rw [hE] at HE
  have HK := Lib.hid (fun W (hW : Nodes W W.heap.size (some ad) xs) => (ref_Kids_any (some ad) e xs (k : Int) W hW hlx).mono (fun _ _ h => h.ints))
  rw [hks] at HK
  have HT := Lib.hid (fun W (hW : Prg.Ok ⟨ps, A, c, vs, some ad, e, xs⟩ W) => ref_typed_any ⟨ps, A, c, vs, some ad, e, xs⟩ n W hW)
  have hn : xs[k]? = some (16, n) := hN.node
  have HBD := Lib.hid (fun W (hW : Nodes W W.heap.size (some ad) xs) => show W.cell? (ad.add (k * 2)) = some (.int .i64 16) ∧ W.cell? ⟨(ad.add (k * 2)).block, (ad.add (k * 2)).off + 1, none⟩ = some (.int .i64 n) from by
    obtain ⟨_, q, -, q1, q2⟩ := hW k _ hn
    cases q
    exact ⟨q1, q2⟩)
  have i1 : (k : Int) < (xs.length : Int) := by have := (List.getElem?_eq_some_iff.1 hn).1; omega
  have i2 : (0 : Int) ≤ (k : Int) := by omega
  have i3 : ¬ (E : Int) < 0 := by omega
  have HAS := Lib.hid hA
  obtain ⟨t, ht⟩ : ∃ t, vtyp vs n = t := ⟨_, rfl⟩
  simp only [ht] at HT
  clear hN hA hn hE hks hp bX ht
  obtain ⟨b0, b1, b2⟩ := HBX.out _ (Below.refl _ _)
  have HALL := Lib.hid (fun W A1 c1 g (hW : (⟨ps, A, c, vs, some ad, e, xs⟩ : Prg).Ok W) (hR : IRow W W.heap.size A1 ks) (hg : Blk W g 3 #[.int .i64 0, .int .i64 0]) => show Calls Try.prog 44 #[.agg #[.int .i64 ps, .slice A vs.length c, .slice (some ad) xs.length e], .slice A1 ks.length c1, .slice (some ⟨g, 0, none⟩) 2 2] W _ from ref_all_any (⟨ps, A, c, vs, some ad, e, xs⟩ : Prg) (okind vs xs) A1 c1 ks (some ⟨g, 0, none⟩) 2 [0, 0] W hW HAS.out.of hR (IRow.one g [0, 0] hg hg.lt) (by have := HAS.out.len; omega) (by decide))
  obtain ⟨b, hb0⟩ : ∃ b, decide (ks.map (okind vs xs) = [0, 0]) = b := ⟨_, rfl⟩
  rw [hb0] at HALL
  have HBB := Lib.hid hb0
  clear hb0
  have HKD := Lib.hid (fun k W => ref_kind_any b k W)
  go_enter Try.func20, Try.ntmps20
  go_wp2_with (first
    | (go_at_call 40; refine (HE.out _ HX.out.body).mono ?_; rintro e w2 ⟨rfl, hb2⟩; have hP2 := HX.out.at hb2; obtain ⟨a0, a1, a2⟩ := HBX.out _ hb2; obtain ⟨g0, g1⟩ := HBD.out _ hP2.body; have hn3 : Below w2.heap.size w2 (w2.alloc (.cells #[.int .i64 16, .int .i64 n] 39)) := (Below.refl _ _).alloc (Nat.le_refl _) _; have hb3 := hb2.trans (hn3.mono hb2.size); have bN := Blk.new w2 39 #[.int .i64 16, .int .i64 n]; have hnl := bN.lt; have hP3 := hP2.at hn3; obtain ⟨b0, b1, b2⟩ := HBX.out _ hb3)
    | (go_at_call 41; refine (HK.out _ hP3.body).mono ?_; rintro e w4 ⟨hb, A1, c1, rfl, hR4, -⟩; have hb4 := hb3.trans (hb.mono hb3.size); have bN4 := bN.below hb hnl; obtain ⟨n0, n1⟩ := bN4.two; have hnl4 := bN4.lt; have hP4 := hP3.at hb; obtain ⟨b0, b1, b2⟩ := HBX.out _ hb4)
    | (go_at_call 42; refine (HT.out _ hP4).mono ?_; rintro e w5 ⟨rfl, hb⟩; have hb5 := hb4.trans (hb.mono hb4.size); have bN5 := bN4.below hb hnl4; obtain ⟨n0, n1⟩ := bN5.two; have hP5 := hP4.at hb; have hR5 := hR4.at hb; obtain ⟨b0, b1, b2⟩ := HBX.out _ hb5)
    | (go_at_call 44; have hn6 : Below w5.heap.size w5 (w5.alloc (.cells #[.int .i64 0, .int .i64 0] 3)) := (Below.refl _ _).alloc (Nat.le_refl _) _; refine (HALL.out _ _ _ _ (hP5.at hn6) (hR5.at hn6) (Blk.new w5 3 #[.int .i64 0, .int .i64 0])).mono ?_; rintro e w7 ⟨rfl, hb⟩; have hb7 := (hb5.trans (hn6.mono hb5.size)).trans (hb.mono (Nat.le_trans hb5.size hn6.size)))
    | (go_at_call 43; refine (HKD.out _ _).mono ?_; rintro e w8 ⟨rfl, rfl⟩))
  go_ret
  exact ⟨by show Ending.returned (Value.int .i64 (ifso (b = true) 1)) = _; rw [← HBB.out, ifso_dec], hB0.trans (hb7.mono hB0.size)⟩
set_option maxRecDepth 100000 in
set_option maxHeartbeats 2000000 in
theorem of_17 (p : Prg) (k : Nat) (n : Int) (ks : List Int) (w : World) (hp : p.Ok w) (hN : NodeAt p k 17 n ks) (hA : Asks p ks) :
    Calls Try.prog 20 #[.agg #[.int .i64 p.ps, .slice p.A p.vs.length p.c, .slice p.B p.xs.length p.e], .int .i64 k] w fun e w' => e = .returned (.int .i64 (ifso (ks.map (okind p.vs p.xs) = [0, 0]) 1)) ∧ Below w.heap.size w w' := by
  obtain ⟨ad, hB1, -, -, -⟩ := hp.body k _ hN.node
  obtain ⟨ps, A, c, vs, B, e, xs⟩ := p
  simp only at hB1
  subst hB1
  have hB0 : Below w.heap.size w (w.alloc (.cells #[.int .i64 ps, .slice A vs.length c, .slice (some ad) xs.length e] 25)) := (Below.refl _ _).alloc (Nat.le_refl _) _
  have bX := Blk.new w 25 #[.int .i64 ps, .slice A vs.length c, .slice (some ad) xs.length e]
  have hgl : w.heap.size < (w.alloc (.cells #[.int .i64 ps, .slice A vs.length c, .slice (some ad) xs.length e] 25)).heap.size := bX.lt
  have HBX := Lib.hid (fun W (h : Below (w.alloc (.cells #[.int .i64 ps, .slice A vs.length c, .slice (some ad) xs.length e] 25)).heap.size (w.alloc (.cells #[.int .i64 ps, .slice A vs.length c, .slice (some ad) xs.length e] 25)) W) => (bX.below h hgl).three)
  have HX := Lib.hid (hp.at hB0)
  have hlx : xs.length ≤ 1000000 := hp.lx
  obtain ⟨E, hE⟩ := Int.eq_ofNat_of_zero_le hN.ends
  have hks := hN.kids
  simp only at hE hks
  have HE := Lib.hid (fun W (hW : Nodes W W.heap.size (some ad) xs) => ref_End_any (some ad) e xs (k : Int) W hW hlx)
  rw [hE] at HE
  have HK := Lib.hid (fun W (hW : Nodes W W.heap.size (some ad) xs) => (ref_Kids_any (some ad) e xs (k : Int) W hW hlx).mono (fun _ _ h => h.ints))
  rw [hks] at HK
  have HT := Lib.hid (fun W (hW : Prg.Ok ⟨ps, A, c, vs, some ad, e, xs⟩ W) => ref_typed_any ⟨ps, A, c, vs, some ad, e, xs⟩ n W hW)
  have hn : xs[k]? = some (17, n) := hN.node
  have HBD := Lib.hid (fun W (hW : Nodes W W.heap.size (some ad) xs) => show W.cell? (ad.add (k * 2)) = some (.int .i64 17) ∧ W.cell? ⟨(ad.add (k * 2)).block, (ad.add (k * 2)).off + 1, none⟩ = some (.int .i64 n) from by
    obtain ⟨_, q, -, q1, q2⟩ := hW k _ hn
    cases q
    exact ⟨q1, q2⟩)
  have i1 : (k : Int) < (xs.length : Int) := by have := (List.getElem?_eq_some_iff.1 hn).1; omega
  have i2 : (0 : Int) ≤ (k : Int) := by omega
  have i3 : ¬ (E : Int) < 0 := by omega
  have HAS := Lib.hid hA
  obtain ⟨t, ht⟩ : ∃ t, vtyp vs n = t := ⟨_, rfl⟩
  simp only [ht] at HT
  clear hN hA hn hE hks hp bX ht
  obtain ⟨b0, b1, b2⟩ := HBX.out _ (Below.refl _ _)
  have HALL := Lib.hid (fun W A1 c1 g (hW : (⟨ps, A, c, vs, some ad, e, xs⟩ : Prg).Ok W) (hR : IRow W W.heap.size A1 ks) (hg : Blk W g 3 #[.int .i64 0, .int .i64 0]) => show Calls Try.prog 44 #[.agg #[.int .i64 ps, .slice A vs.length c, .slice (some ad) xs.length e], .slice A1 ks.length c1, .slice (some ⟨g, 0, none⟩) 2 2] W _ from ref_all_any (⟨ps, A, c, vs, some ad, e, xs⟩ : Prg) (okind vs xs) A1 c1 ks (some ⟨g, 0, none⟩) 2 [0, 0] W hW HAS.out.of hR (IRow.one g [0, 0] hg hg.lt) (by have := HAS.out.len; omega) (by decide))
  obtain ⟨b, hb0⟩ : ∃ b, decide (ks.map (okind vs xs) = [0, 0]) = b := ⟨_, rfl⟩
  rw [hb0] at HALL
  have HBB := Lib.hid hb0
  clear hb0
  have HKD := Lib.hid (fun k W => ref_kind_any b k W)
  go_enter Try.func20, Try.ntmps20
  go_wp2_with (first
    | (go_at_call 40; refine (HE.out _ HX.out.body).mono ?_; rintro e w2 ⟨rfl, hb2⟩; have hP2 := HX.out.at hb2; obtain ⟨a0, a1, a2⟩ := HBX.out _ hb2; obtain ⟨g0, g1⟩ := HBD.out _ hP2.body; have hn3 : Below w2.heap.size w2 (w2.alloc (.cells #[.int .i64 17, .int .i64 n] 39)) := (Below.refl _ _).alloc (Nat.le_refl _) _; have hb3 := hb2.trans (hn3.mono hb2.size); have bN := Blk.new w2 39 #[.int .i64 17, .int .i64 n]; have hnl := bN.lt; have hP3 := hP2.at hn3; obtain ⟨b0, b1, b2⟩ := HBX.out _ hb3)
    | (go_at_call 41; refine (HK.out _ hP3.body).mono ?_; rintro e w4 ⟨hb, A1, c1, rfl, hR4, -⟩; have hb4 := hb3.trans (hb.mono hb3.size); have bN4 := bN.below hb hnl; obtain ⟨n0, n1⟩ := bN4.two; have hnl4 := bN4.lt; have hP4 := hP3.at hb; obtain ⟨b0, b1, b2⟩ := HBX.out _ hb4)
    | (go_at_call 42; refine (HT.out _ hP4).mono ?_; rintro e w5 ⟨rfl, hb⟩; have hb5 := hb4.trans (hb.mono hb4.size); have bN5 := bN4.below hb hnl4; obtain ⟨n0, n1⟩ := bN5.two; have hP5 := hP4.at hb; have hR5 := hR4.at hb; obtain ⟨b0, b1, b2⟩ := HBX.out _ hb5)
    | (go_at_call 44; have hn6 : Below w5.heap.size w5 (w5.alloc (.cells #[.int .i64 0, .int .i64 0] 3)) := (Below.refl _ _).alloc (Nat.le_refl _) _; refine (HALL.out _ _ _ _ (hP5.at hn6) (hR5.at hn6) (Blk.new w5 3 #[.int .i64 0, .int .i64 0])).mono ?_; rintro e w7 ⟨rfl, hb⟩; have hb7 := (hb5.trans (hn6.mono hb5.size)).trans (hb.mono (Nat.le_trans hb5.size hn6.size)))
    | (go_at_call 43; refine (HKD.out _ _).mono ?_; rintro e w8 ⟨rfl, rfl⟩))
  go_ret
  exact ⟨by show Ending.returned (Value.int .i64 (ifso (b = true) 1)) = _; rw [← HBB.out, ifso_dec], hB0.trans (hb7.mono hB0.size)⟩
set_option maxRecDepth 100000 in
set_option maxHeartbeats 2000000 in
theorem of_18 (p : Prg) (k : Nat) (n : Int) (ks : List Int) (w : World) (hp : p.Ok w) (hN : NodeAt p k 18 n ks) (hA : Asks p ks) :
    Calls Try.prog 20 #[.agg #[.int .i64 p.ps, .slice p.A p.vs.length p.c, .slice p.B p.xs.length p.e], .int .i64 k] w fun e w' => e = .returned (.int .i64 (ifso (ks.map (okind p.vs p.xs) = [1, 1]) 1)) ∧ Below w.heap.size w w' := by
  obtain ⟨ad, hB1, -, -, -⟩ := hp.body k _ hN.node
  obtain ⟨ps, A, c, vs, B, e, xs⟩ := p
  simp only at hB1
  subst hB1
  have hB0 : Below w.heap.size w (w.alloc (.cells #[.int .i64 ps, .slice A vs.length c, .slice (some ad) xs.length e] 25)) := (Below.refl _ _).alloc (Nat.le_refl _) _
  have bX := Blk.new w 25 #[.int .i64 ps, .slice A vs.length c, .slice (some ad) xs.length e]
  have hgl : w.heap.size < (w.alloc (.cells #[.int .i64 ps, .slice A vs.length c, .slice (some ad) xs.length e] 25)).heap.size := bX.lt
  have HBX := Lib.hid (fun W (h : Below (w.alloc (.cells #[.int .i64 ps, .slice A vs.length c, .slice (some ad) xs.length e] 25)).heap.size (w.alloc (.cells #[.int .i64 ps, .slice A vs.length c, .slice (some ad) xs.length e] 25)) W) => (bX.below h hgl).three)
  have HX := Lib.hid (hp.at hB0)
  have hlx : xs.length ≤ 1000000 := hp.lx
  obtain ⟨E, hE⟩ := Int.eq_ofNat_of_zero_le hN.ends
  have hks := hN.kids
  simp only at hE hks
  have HE := Lib.hid (fun W (hW : Nodes W W.heap.size (some ad) xs) => ref_End_any (some ad) e xs (k : Int) W hW hlx)
  rw [hE] at HE
  have HK := Lib.hid (fun W (hW : Nodes W W.heap.size (some ad) xs) => (ref_Kids_any (some ad) e xs (k : Int) W hW hlx).mono (fun _ _ h => h.ints))
  rw [hks] at HK
  have HT := Lib.hid (fun W (hW : Prg.Ok ⟨ps, A, c, vs, some ad, e, xs⟩ W) => ref_typed_any ⟨ps, A, c, vs, some ad, e, xs⟩ n W hW)
  have hn : xs[k]? = some (18, n) := hN.node
  have HBD := Lib.hid (fun W (hW : Nodes W W.heap.size (some ad) xs) => show W.cell? (ad.add (k * 2)) = some (.int .i64 18) ∧ W.cell? ⟨(ad.add (k * 2)).block, (ad.add (k * 2)).off + 1, none⟩ = some (.int .i64 n) from by
    obtain ⟨_, q, -, q1, q2⟩ := hW k _ hn
    cases q
    exact ⟨q1, q2⟩)
  have i1 : (k : Int) < (xs.length : Int) := by have := (List.getElem?_eq_some_iff.1 hn).1; omega
  have i2 : (0 : Int) ≤ (k : Int) := by omega
  have i3 : ¬ (E : Int) < 0 := by omega
  have HAS := Lib.hid hA
  obtain ⟨t, ht⟩ : ∃ t, vtyp vs n = t := ⟨_, rfl⟩
  simp only [ht] at HT
  clear hN hA hn hE hks hp bX ht
  obtain ⟨b0, b1, b2⟩ := HBX.out _ (Below.refl _ _)
  have HALL := Lib.hid (fun W A1 c1 g (hW : (⟨ps, A, c, vs, some ad, e, xs⟩ : Prg).Ok W) (hR : IRow W W.heap.size A1 ks) (hg : Blk W g 3 #[.int .i64 1, .int .i64 1]) => show Calls Try.prog 44 #[.agg #[.int .i64 ps, .slice A vs.length c, .slice (some ad) xs.length e], .slice A1 ks.length c1, .slice (some ⟨g, 0, none⟩) 2 2] W _ from ref_all_any (⟨ps, A, c, vs, some ad, e, xs⟩ : Prg) (okind vs xs) A1 c1 ks (some ⟨g, 0, none⟩) 2 [1, 1] W hW HAS.out.of hR (IRow.one g [1, 1] hg hg.lt) (by have := HAS.out.len; omega) (by decide))
  obtain ⟨b, hb0⟩ : ∃ b, decide (ks.map (okind vs xs) = [1, 1]) = b := ⟨_, rfl⟩
  rw [hb0] at HALL
  have HBB := Lib.hid hb0
  clear hb0
  have HKD := Lib.hid (fun k W => ref_kind_any b k W)
  go_enter Try.func20, Try.ntmps20
  go_wp2_with (first
    | (go_at_call 40; refine (HE.out _ HX.out.body).mono ?_; rintro e w2 ⟨rfl, hb2⟩; have hP2 := HX.out.at hb2; obtain ⟨a0, a1, a2⟩ := HBX.out _ hb2; obtain ⟨g0, g1⟩ := HBD.out _ hP2.body; have hn3 : Below w2.heap.size w2 (w2.alloc (.cells #[.int .i64 18, .int .i64 n] 39)) := (Below.refl _ _).alloc (Nat.le_refl _) _; have hb3 := hb2.trans (hn3.mono hb2.size); have bN := Blk.new w2 39 #[.int .i64 18, .int .i64 n]; have hnl := bN.lt; have hP3 := hP2.at hn3; obtain ⟨b0, b1, b2⟩ := HBX.out _ hb3)
    | (go_at_call 41; refine (HK.out _ hP3.body).mono ?_; rintro e w4 ⟨hb, A1, c1, rfl, hR4, -⟩; have hb4 := hb3.trans (hb.mono hb3.size); have bN4 := bN.below hb hnl; obtain ⟨n0, n1⟩ := bN4.two; have hnl4 := bN4.lt; have hP4 := hP3.at hb; obtain ⟨b0, b1, b2⟩ := HBX.out _ hb4)
    | (go_at_call 42; refine (HT.out _ hP4).mono ?_; rintro e w5 ⟨rfl, hb⟩; have hb5 := hb4.trans (hb.mono hb4.size); have bN5 := bN4.below hb hnl4; obtain ⟨n0, n1⟩ := bN5.two; have hP5 := hP4.at hb; have hR5 := hR4.at hb; obtain ⟨b0, b1, b2⟩ := HBX.out _ hb5)
    | (go_at_call 44; have hn6 : Below w5.heap.size w5 (w5.alloc (.cells #[.int .i64 1, .int .i64 1] 3)) := (Below.refl _ _).alloc (Nat.le_refl _) _; refine (HALL.out _ _ _ _ (hP5.at hn6) (hR5.at hn6) (Blk.new w5 3 #[.int .i64 1, .int .i64 1])).mono ?_; rintro e w7 ⟨rfl, hb⟩; have hb7 := (hb5.trans (hn6.mono hb5.size)).trans (hb.mono (Nat.le_trans hb5.size hn6.size)))
    | (go_at_call 43; refine (HKD.out _ _).mono ?_; rintro e w8 ⟨rfl, rfl⟩))
  go_ret
  exact ⟨by show Ending.returned (Value.int .i64 (ifso (b = true) 1)) = _; rw [← HBB.out, ifso_dec], hB0.trans (hb7.mono hB0.size)⟩
set_option maxRecDepth 100000 in
set_option maxHeartbeats 2000000 in
theorem of_19 (p : Prg) (k : Nat) (n : Int) (ks : List Int) (w : World) (hp : p.Ok w) (hN : NodeAt p k 19 n ks) (hA : Asks p ks) :
    Calls Try.prog 20 #[.agg #[.int .i64 p.ps, .slice p.A p.vs.length p.c, .slice p.B p.xs.length p.e], .int .i64 k] w fun e w' => e = .returned (.int .i64 (ifso (ks.map (okind p.vs p.xs) = [1, 1]) 1)) ∧ Below w.heap.size w w' := by
  obtain ⟨ad, hB1, -, -, -⟩ := hp.body k _ hN.node
  obtain ⟨ps, A, c, vs, B, e, xs⟩ := p
  simp only at hB1
  subst hB1
  have hB0 : Below w.heap.size w (w.alloc (.cells #[.int .i64 ps, .slice A vs.length c, .slice (some ad) xs.length e] 25)) := (Below.refl _ _).alloc (Nat.le_refl _) _
  have bX := Blk.new w 25 #[.int .i64 ps, .slice A vs.length c, .slice (some ad) xs.length e]
  have hgl : w.heap.size < (w.alloc (.cells #[.int .i64 ps, .slice A vs.length c, .slice (some ad) xs.length e] 25)).heap.size := bX.lt
  have HBX := Lib.hid (fun W (h : Below (w.alloc (.cells #[.int .i64 ps, .slice A vs.length c, .slice (some ad) xs.length e] 25)).heap.size (w.alloc (.cells #[.int .i64 ps, .slice A vs.length c, .slice (some ad) xs.length e] 25)) W) => (bX.below h hgl).three)
  have HX := Lib.hid (hp.at hB0)
  have hlx : xs.length ≤ 1000000 := hp.lx
  obtain ⟨E, hE⟩ := Int.eq_ofNat_of_zero_le hN.ends
  have hks := hN.kids
  simp only at hE hks
  have HE := Lib.hid (fun W (hW : Nodes W W.heap.size (some ad) xs) => ref_End_any (some ad) e xs (k : Int) W hW hlx)
  rw [hE] at HE
  have HK := Lib.hid (fun W (hW : Nodes W W.heap.size (some ad) xs) => (ref_Kids_any (some ad) e xs (k : Int) W hW hlx).mono (fun _ _ h => h.ints))
  rw [hks] at HK
  have HT := Lib.hid (fun W (hW : Prg.Ok ⟨ps, A, c, vs, some ad, e, xs⟩ W) => ref_typed_any ⟨ps, A, c, vs, some ad, e, xs⟩ n W hW)
  have hn : xs[k]? = some (19, n) := hN.node
  have HBD := Lib.hid (fun W (hW : Nodes W W.heap.size (some ad) xs) => show W.cell? (ad.add (k * 2)) = some (.int .i64 19) ∧ W.cell? ⟨(ad.add (k * 2)).block, (ad.add (k * 2)).off + 1, none⟩ = some (.int .i64 n) from by
    obtain ⟨_, q, -, q1, q2⟩ := hW k _ hn
    cases q
    exact ⟨q1, q2⟩)
  have i1 : (k : Int) < (xs.length : Int) := by have := (List.getElem?_eq_some_iff.1 hn).1; omega
  have i2 : (0 : Int) ≤ (k : Int) := by omega
  have i3 : ¬ (E : Int) < 0 := by omega
  have HAS := Lib.hid hA
  obtain ⟨t, ht⟩ : ∃ t, vtyp vs n = t := ⟨_, rfl⟩
  simp only [ht] at HT
  clear hN hA hn hE hks hp bX ht
  obtain ⟨b0, b1, b2⟩ := HBX.out _ (Below.refl _ _)
  have HALL := Lib.hid (fun W A1 c1 g (hW : (⟨ps, A, c, vs, some ad, e, xs⟩ : Prg).Ok W) (hR : IRow W W.heap.size A1 ks) (hg : Blk W g 3 #[.int .i64 1, .int .i64 1]) => show Calls Try.prog 44 #[.agg #[.int .i64 ps, .slice A vs.length c, .slice (some ad) xs.length e], .slice A1 ks.length c1, .slice (some ⟨g, 0, none⟩) 2 2] W _ from ref_all_any (⟨ps, A, c, vs, some ad, e, xs⟩ : Prg) (okind vs xs) A1 c1 ks (some ⟨g, 0, none⟩) 2 [1, 1] W hW HAS.out.of hR (IRow.one g [1, 1] hg hg.lt) (by have := HAS.out.len; omega) (by decide))
  obtain ⟨b, hb0⟩ : ∃ b, decide (ks.map (okind vs xs) = [1, 1]) = b := ⟨_, rfl⟩
  rw [hb0] at HALL
  have HBB := Lib.hid hb0
  clear hb0
  have HKD := Lib.hid (fun k W => ref_kind_any b k W)
  go_enter Try.func20, Try.ntmps20
  go_wp2_with (first
    | (go_at_call 40; refine (HE.out _ HX.out.body).mono ?_; rintro e w2 ⟨rfl, hb2⟩; have hP2 := HX.out.at hb2; obtain ⟨a0, a1, a2⟩ := HBX.out _ hb2; obtain ⟨g0, g1⟩ := HBD.out _ hP2.body; have hn3 : Below w2.heap.size w2 (w2.alloc (.cells #[.int .i64 19, .int .i64 n] 39)) := (Below.refl _ _).alloc (Nat.le_refl _) _; have hb3 := hb2.trans (hn3.mono hb2.size); have bN := Blk.new w2 39 #[.int .i64 19, .int .i64 n]; have hnl := bN.lt; have hP3 := hP2.at hn3; obtain ⟨b0, b1, b2⟩ := HBX.out _ hb3)
    | (go_at_call 41; refine (HK.out _ hP3.body).mono ?_; rintro e w4 ⟨hb, A1, c1, rfl, hR4, -⟩; have hb4 := hb3.trans (hb.mono hb3.size); have bN4 := bN.below hb hnl; obtain ⟨n0, n1⟩ := bN4.two; have hnl4 := bN4.lt; have hP4 := hP3.at hb; obtain ⟨b0, b1, b2⟩ := HBX.out _ hb4)
    | (go_at_call 42; refine (HT.out _ hP4).mono ?_; rintro e w5 ⟨rfl, hb⟩; have hb5 := hb4.trans (hb.mono hb4.size); have bN5 := bN4.below hb hnl4; obtain ⟨n0, n1⟩ := bN5.two; have hP5 := hP4.at hb; have hR5 := hR4.at hb; obtain ⟨b0, b1, b2⟩ := HBX.out _ hb5)
    | (go_at_call 44; have hn6 : Below w5.heap.size w5 (w5.alloc (.cells #[.int .i64 1, .int .i64 1] 3)) := (Below.refl _ _).alloc (Nat.le_refl _) _; refine (HALL.out _ _ _ _ (hP5.at hn6) (hR5.at hn6) (Blk.new w5 3 #[.int .i64 1, .int .i64 1])).mono ?_; rintro e w7 ⟨rfl, hb⟩; have hb7 := (hb5.trans (hn6.mono hb5.size)).trans (hb.mono (Nat.le_trans hb5.size hn6.size)))
    | (go_at_call 43; refine (HKD.out _ _).mono ?_; rintro e w8 ⟨rfl, rfl⟩))
  go_ret
  exact ⟨by show Ending.returned (Value.int .i64 (ifso (b = true) 1)) = _; rw [← HBB.out, ifso_dec], hB0.trans (hb7.mono hB0.size)⟩
set_option maxRecDepth 100000 in
set_option maxHeartbeats 2000000 in
theorem of_20 (p : Prg) (k : Nat) (n : Int) (ks : List Int) (w : World) (hp : p.Ok w) (hN : NodeAt p k 20 n ks) (hA : Asks p ks) :
    Calls Try.prog 20 #[.agg #[.int .i64 p.ps, .slice p.A p.vs.length p.c, .slice p.B p.xs.length p.e], .int .i64 k] w fun e w' => e = .returned (.int .i64 (ifso (alltwo (ks.map (okind p.vs p.xs)) = true) 2)) ∧ Below w.heap.size w w' := by
  obtain ⟨ad, hB1, -, -, -⟩ := hp.body k _ hN.node
  obtain ⟨ps, A, c, vs, B, e, xs⟩ := p
  simp only at hB1
  subst hB1
  have hB0 : Below w.heap.size w (w.alloc (.cells #[.int .i64 ps, .slice A vs.length c, .slice (some ad) xs.length e] 25)) := (Below.refl _ _).alloc (Nat.le_refl _) _
  have bX := Blk.new w 25 #[.int .i64 ps, .slice A vs.length c, .slice (some ad) xs.length e]
  have hgl : w.heap.size < (w.alloc (.cells #[.int .i64 ps, .slice A vs.length c, .slice (some ad) xs.length e] 25)).heap.size := bX.lt
  have HBX := Lib.hid (fun W (h : Below (w.alloc (.cells #[.int .i64 ps, .slice A vs.length c, .slice (some ad) xs.length e] 25)).heap.size (w.alloc (.cells #[.int .i64 ps, .slice A vs.length c, .slice (some ad) xs.length e] 25)) W) => (bX.below h hgl).three)
  have HX := Lib.hid (hp.at hB0)
  have hlx : xs.length ≤ 1000000 := hp.lx
  obtain ⟨E, hE⟩ := Int.eq_ofNat_of_zero_le hN.ends
  have hks := hN.kids
  simp only at hE hks
  have HE := Lib.hid (fun W (hW : Nodes W W.heap.size (some ad) xs) => ref_End_any (some ad) e xs (k : Int) W hW hlx)
  rw [hE] at HE
  have HK := Lib.hid (fun W (hW : Nodes W W.heap.size (some ad) xs) => (ref_Kids_any (some ad) e xs (k : Int) W hW hlx).mono (fun _ _ h => h.ints))
  rw [hks] at HK
  have HT := Lib.hid (fun W (hW : Prg.Ok ⟨ps, A, c, vs, some ad, e, xs⟩ W) => ref_typed_any ⟨ps, A, c, vs, some ad, e, xs⟩ n W hW)
  have hn : xs[k]? = some (20, n) := hN.node
  have HBD := Lib.hid (fun W (hW : Nodes W W.heap.size (some ad) xs) => show W.cell? (ad.add (k * 2)) = some (.int .i64 20) ∧ W.cell? ⟨(ad.add (k * 2)).block, (ad.add (k * 2)).off + 1, none⟩ = some (.int .i64 n) from by
    obtain ⟨_, q, -, q1, q2⟩ := hW k _ hn
    cases q
    exact ⟨q1, q2⟩)
  have i1 : (k : Int) < (xs.length : Int) := by have := (List.getElem?_eq_some_iff.1 hn).1; omega
  have i2 : (0 : Int) ≤ (k : Int) := by omega
  have i3 : ¬ (E : Int) < 0 := by omega
  have HAS := Lib.hid hA
  obtain ⟨t, ht⟩ : ∃ t, vtyp vs n = t := ⟨_, rfl⟩
  simp only [ht] at HT
  clear hN hA hn hE hks hp bX ht
  obtain ⟨b0, b1, b2⟩ := HBX.out _ (Below.refl _ _)
  have HLEN := Lib.hid HAS.out.len
  go_enter Try.func20, Try.ntmps20
  go_wp2_with (first
    | (go_at_call 40; refine (HE.out _ HX.out.body).mono ?_; rintro e w2 ⟨rfl, hb2⟩; have hP2 := HX.out.at hb2; obtain ⟨a0, a1, a2⟩ := HBX.out _ hb2; obtain ⟨g0, g1⟩ := HBD.out _ hP2.body; have hn3 : Below w2.heap.size w2 (w2.alloc (.cells #[.int .i64 20, .int .i64 n] 39)) := (Below.refl _ _).alloc (Nat.le_refl _) _; have hb3 := hb2.trans (hn3.mono hb2.size); have bN := Blk.new w2 39 #[.int .i64 20, .int .i64 n]; have hnl := bN.lt; have hP3 := hP2.at hn3; obtain ⟨b0, b1, b2⟩ := HBX.out _ hb3)
    | (go_at_call 41; refine (HK.out _ hP3.body).mono ?_; rintro e w4 ⟨hb, A1, c1, rfl, hR4, -⟩; have hb4 := hb3.trans (hb.mono hb3.size); have bN4 := bN.below hb hnl; obtain ⟨n0, n1⟩ := bN4.two; have hnl4 := bN4.lt; have hP4 := hP3.at hb; obtain ⟨b0, b1, b2⟩ := HBX.out _ hb4)
    | (go_at_call 42; refine (HT.out _ hP4).mono ?_; rintro e w5 ⟨rfl, hb⟩; have hb5 := hb4.trans (hb.mono hb4.size); have bN5 := bN4.below hb hnl4; obtain ⟨n0, n1⟩ := bN5.two; have hP5 := hP4.at hb; have hR5 := hR4.at hb; obtain ⟨b0, b1, b2⟩ := HBX.out _ hb5))
  have HR := Lib.hid hR5
  have HP := Lib.hid hP5
  have HB5 := Lib.hid hb5
  clear b0 b1 b2 a0 a1 a2 g0 g1 n0 n1 hR5 hP5 hR4 hP4 hP3 hP2
  go_loopw [8] (fun i wr => ∃ j : Nat, j ≤ ks.length ∧ i = .int .i64 j ∧ alltwo ((ks.take j).map (okind vs xs)) = true ∧ Below w5.heap.size w5 wr) (fun i _ => ks.length - (intOf i).toNat)
  case atStart => exact ⟨0, by omega, rfl, rfl, Below.refl _ _⟩
  case round =>
    obtain ⟨j, hj, rfl, hs, hB⟩ := hrel
    have hBw := hB0.trans ((HB5.out.trans (hB.mono HB5.out.size)).mono hB0.size)
    by_cases hlt : j < ks.length
    · obtain ⟨q, hqj⟩ : ∃ q, ks[j]? = some q := ⟨_, List.getElem?_eq_getElem hlt⟩
      obtain ⟨ad1, rfl, hbk1, k0⟩ := (HR.out.at hB) j q hqj
      have hO := Lib.hid (fun W (hW : (⟨ps, A, c, vs, some ad, e, xs⟩ : Prg).Ok W) => show Calls Try.prog 20 #[.agg #[.int .i64 ps, .slice A vs.length c, .slice (some ad) xs.length e], .int .i64 q] W (fun e w' => e = .returned (.int .i64 (okind vs xs q)) ∧ Below W.heap.size W w') from HAS.out.of q (List.mem_of_getElem? hqj) W hW)
      have HCC := Lib.hid (fun W (h : Below w5.heap.size w5 W) => (show W.cell? ⟨w.heap.size, 0, none⟩ = some (.int .i64 ps) ∧ W.cell? ⟨w.heap.size, 1, none⟩ = some (.slice A vs.length c) ∧ W.cell? ⟨w.heap.size, 2, none⟩ = some (.slice (some ad) xs.length e) ∧ W.cell? (ad1.add j) = some (.int .i64 q) from by
        obtain ⟨q1, q2, q3⟩ := HBX.out _ (HB5.out.trans (h.mono HB5.out.size))
        obtain ⟨_, q4, _, q5⟩ := (HR.out.at h) j q hqj
        cases q4
        exact ⟨q1, q2, q3, q5⟩))
      have hPj := HP.out.at hB
      have hC := HCC.out _ hB
      have i5 : (j : Int) < (ks.length : Int) := by omega
      have i6 : (0 : Int) ≤ (j : Int) := by omega
      have hLL := HLEN.out
      by_cases he : okind vs xs q = 2
      · have HS := Lib.hid (show alltwo ((ks.take (j + 1)).map (okind vs xs)) = true by rw [take_snoc ks j q hqj, List.map_append]; unfold alltwo at hs ⊢; rw [List.all_append, hs]; simp [he])
        rw [he] at hO
        clear hs hqj he
        go_wp2_with fail
        go_region_held3 (fun w' => w'.cell? ⟨w.heap.size, 0, none⟩ = some (.int .i64 ps) ∧ w'.cell? ⟨w.heap.size, 1, none⟩ = some (.slice A vs.length c) ∧ w'.cell? ⟨w.heap.size, 2, none⟩ = some (.slice (some ad) xs.length e) ∧ w'.cell? (ad1.add j) = some (.int .i64 q)) (exact hC) (first
            | (go_at_call 20; refine (hO.out _ (hPj.drew)).mono ?_; rintro e w9 ⟨rfl, hb⟩; have hBB := (hB.drew).trans (hb.mono hB.size); have hC := HCC.out _ hBB)
            | fail)
        go_wp2_with fail
        go_roundw
        case rel => exact ⟨j + 1, by omega, by go_num, HS.out, hBB⟩
        case measure => simp [intOf]; omega
      · have HF := Lib.hid (show ifso (alltwo (ks.map (okind vs xs)) = true) 2 = -1 by
          unfold ifso
          rw [if_neg]
          intro h
          unfold alltwo at h
          rw [List.all_eq_true] at h
          have := h _ (List.mem_map.2 ⟨q, List.mem_of_getElem? hqj, rfl⟩)
          exact he (by simpa using this))
        obtain ⟨z, hz⟩ : ∃ z, okind vs xs q = z := ⟨_, rfl⟩
        rw [hz] at hO he
        have e2 : (z == 2) = false := by simpa using he
        have e3 : (z != 2) = true := by simpa using he
        clear hs hqj he hz
        go_wp2_with fail
        go_region_held3 (fun w' => w'.cell? ⟨w.heap.size, 0, none⟩ = some (.int .i64 ps) ∧ w'.cell? ⟨w.heap.size, 1, none⟩ = some (.slice A vs.length c) ∧ w'.cell? ⟨w.heap.size, 2, none⟩ = some (.slice (some ad) xs.length e) ∧ w'.cell? (ad1.add j) = some (.int .i64 q)) (exact hC) (first
            | (go_at_call 20; refine (hO.out _ (hPj.drew)).mono ?_; rintro e w9 ⟨rfl, hb⟩; have hBB := (hB.drew).trans (hb.mono hB.size); have hC := HCC.out _ hBB)
            | fail)
        go_wp2_with fail
        go_ret
        exact ⟨by rw [HF.out]; rfl, hB0.trans ((HB5.out.trans (hBB.mono HB5.out.size)).mono hB0.size)⟩
    · have hk9 : j = ks.length := by omega
      subst hk9
      rw [List.take_length] at hs
      have HF := Lib.hid (show ifso (alltwo (ks.map (okind vs xs)) = true) 2 = 2 by unfold ifso; rw [if_pos hs])
      have i5 : ¬ (ks.length : Int) < (ks.length : Int) := by omega
      clear hs
      go_wp2
      go_ret
      exact ⟨by rw [HF.out]; rfl, hBw⟩

set_option maxRecDepth 100000 in
set_option maxHeartbeats 2000000 in
theorem of_21 (p : Prg) (k : Nat) (n : Int) (ks : List Int) (w : World) (hp : p.Ok w) (hN : NodeAt p k 21 n ks) (hA : Asks p ks) :
    Calls Try.prog 20 #[.agg #[.int .i64 p.ps, .slice p.A p.vs.length p.c, .slice p.B p.xs.length p.e], .int .i64 k] w fun e w' => e = .returned (.int .i64 (ifso ((vtyp p.vs n = 0 ∨ vtyp p.vs n = 1) ∧ ks.map (okind p.vs p.xs) = [vtyp p.vs n]) 2)) ∧ Below w.heap.size w w' := by
  obtain ⟨ad, hB1, -, -, -⟩ := hp.body k _ hN.node
  obtain ⟨ps, A, c, vs, B, e, xs⟩ := p
  simp only at hB1
  subst hB1
  have hB0 : Below w.heap.size w (w.alloc (.cells #[.int .i64 ps, .slice A vs.length c, .slice (some ad) xs.length e] 25)) := (Below.refl _ _).alloc (Nat.le_refl _) _
  have bX := Blk.new w 25 #[.int .i64 ps, .slice A vs.length c, .slice (some ad) xs.length e]
  have hgl : w.heap.size < (w.alloc (.cells #[.int .i64 ps, .slice A vs.length c, .slice (some ad) xs.length e] 25)).heap.size := bX.lt
  have HBX := Lib.hid (fun W (h : Below (w.alloc (.cells #[.int .i64 ps, .slice A vs.length c, .slice (some ad) xs.length e] 25)).heap.size (w.alloc (.cells #[.int .i64 ps, .slice A vs.length c, .slice (some ad) xs.length e] 25)) W) => (bX.below h hgl).three)
  have HX := Lib.hid (hp.at hB0)
  have hlx : xs.length ≤ 1000000 := hp.lx
  obtain ⟨E, hE⟩ := Int.eq_ofNat_of_zero_le hN.ends
  have hks := hN.kids
  simp only at hE hks
  have HE := Lib.hid (fun W (hW : Nodes W W.heap.size (some ad) xs) => ref_End_any (some ad) e xs (k : Int) W hW hlx)
  rw [hE] at HE
  have HK := Lib.hid (fun W (hW : Nodes W W.heap.size (some ad) xs) => (ref_Kids_any (some ad) e xs (k : Int) W hW hlx).mono (fun _ _ h => h.ints))
  rw [hks] at HK
  have HT := Lib.hid (fun W (hW : Prg.Ok ⟨ps, A, c, vs, some ad, e, xs⟩ W) => ref_typed_any ⟨ps, A, c, vs, some ad, e, xs⟩ n W hW)
  have hn : xs[k]? = some (21, n) := hN.node
  have HBD := Lib.hid (fun W (hW : Nodes W W.heap.size (some ad) xs) => show W.cell? (ad.add (k * 2)) = some (.int .i64 21) ∧ W.cell? ⟨(ad.add (k * 2)).block, (ad.add (k * 2)).off + 1, none⟩ = some (.int .i64 n) from by
    obtain ⟨_, q, -, q1, q2⟩ := hW k _ hn
    cases q
    exact ⟨q1, q2⟩)
  have i1 : (k : Int) < (xs.length : Int) := by have := (List.getElem?_eq_some_iff.1 hn).1; omega
  have i2 : (0 : Int) ≤ (k : Int) := by omega
  have i3 : ¬ (E : Int) < 0 := by omega
  have HAS := Lib.hid hA
  obtain ⟨t, ht⟩ : ∃ t, vtyp vs n = t := ⟨_, rfl⟩
  simp only [ht] at HT ⊢
  clear hN hA hn hE hks hp bX ht
  obtain ⟨b0, b1, b2⟩ := HBX.out _ (Below.refl _ _)
  have HKD := Lib.hid (fun b k W => ref_kind_any b k W)
  by_cases h0 : t = 0
  · subst h0
    have HF := Lib.hid (show ifso (((0 : Int) = 0 ∨ (0 : Int) = 1) ∧ ks.map (okind vs xs) = [0]) 2 = ifso (ks.map (okind vs xs) = [0]) 2 from ifso_iff ⟨fun h => h.2, fun h => ⟨by decide, h⟩⟩ _)
    have HALL := Lib.hid (fun W A1 c1 g (hW : (⟨ps, A, c, vs, some ad, e, xs⟩ : Prg).Ok W) (hR : IRow W W.heap.size A1 ks) (hg : Blk W g 3 #[.int .i64 0]) => show Calls Try.prog 44 #[.agg #[.int .i64 ps, .slice A vs.length c, .slice (some ad) xs.length e], .slice A1 ks.length c1, .slice (some ⟨g, 0, none⟩) 1 1] W _ from ref_all_any (⟨ps, A, c, vs, some ad, e, xs⟩ : Prg) (okind vs xs) A1 c1 ks (some ⟨g, 0, none⟩) 1 [0] W hW HAS.out.of hR (IRow.one g [0] hg hg.lt) (by have := HAS.out.len; omega) (by decide))
    obtain ⟨b, hb0⟩ : ∃ b, decide (ks.map (okind vs xs) = [0]) = b := ⟨_, rfl⟩
    rw [hb0] at HALL
    have HBB := Lib.hid hb0
    clear hb0
    go_enter Try.func20, Try.ntmps20
    go_wp2_with (first
      | (go_at_call 40; refine (HE.out _ HX.out.body).mono ?_; rintro e w2 ⟨rfl, hb2⟩; have hP2 := HX.out.at hb2; obtain ⟨a0, a1, a2⟩ := HBX.out _ hb2; obtain ⟨g0, g1⟩ := HBD.out _ hP2.body; have hn3 : Below w2.heap.size w2 (w2.alloc (.cells #[.int .i64 21, .int .i64 n] 39)) := (Below.refl _ _).alloc (Nat.le_refl _) _; have hb3 := hb2.trans (hn3.mono hb2.size); have bN := Blk.new w2 39 #[.int .i64 21, .int .i64 n]; have hnl := bN.lt; have hP3 := hP2.at hn3; obtain ⟨b0, b1, b2⟩ := HBX.out _ hb3)
      | (go_at_call 41; refine (HK.out _ hP3.body).mono ?_; rintro e w4 ⟨hb, A1, c1, rfl, hR4, -⟩; have hb4 := hb3.trans (hb.mono hb3.size); have bN4 := bN.below hb hnl; obtain ⟨n0, n1⟩ := bN4.two; have hnl4 := bN4.lt; have hP4 := hP3.at hb; obtain ⟨b0, b1, b2⟩ := HBX.out _ hb4)
      | (go_at_call 42; refine (HT.out _ hP4).mono ?_; rintro e w5 ⟨rfl, hb⟩; have hb5 := hb4.trans (hb.mono hb4.size); have bN5 := bN4.below hb hnl4; obtain ⟨n0, n1⟩ := bN5.two; have hP5 := hP4.at hb; have hR5 := hR4.at hb; obtain ⟨b0, b1, b2⟩ := HBX.out _ hb5)
      | (go_at_call 44; have hn6 : Below w5.heap.size w5 (w5.alloc (.cells #[.int .i64 0] 3)) := (Below.refl _ _).alloc (Nat.le_refl _) _; refine (HALL.out _ _ _ _ (hP5.at hn6) (hR5.at hn6) (Blk.new w5 3 #[.int .i64 0])).mono ?_; rintro e w7 ⟨rfl, hb⟩; have hb7 := (hb5.trans (hn6.mono hb5.size)).trans (hb.mono (Nat.le_trans hb5.size hn6.size)))
      | (go_at_call 43; refine (HKD.out _ _ _).mono ?_; rintro e w8 ⟨rfl, rfl⟩))
    go_ret
    exact ⟨by rw [HF.out]; show Ending.returned (Value.int .i64 (ifso (b = true) 2)) = _; rw [← HBB.out, ifso_dec], hB0.trans (hb7.mono hB0.size)⟩
  by_cases h1 : t = 1
  · subst h1
    have HF := Lib.hid (show ifso (((1 : Int) = 0 ∨ (1 : Int) = 1) ∧ ks.map (okind vs xs) = [1]) 2 = ifso (ks.map (okind vs xs) = [1]) 2 from ifso_iff ⟨fun h => h.2, fun h => ⟨by decide, h⟩⟩ _)
    have HALL := Lib.hid (fun W A1 c1 g (hW : (⟨ps, A, c, vs, some ad, e, xs⟩ : Prg).Ok W) (hR : IRow W W.heap.size A1 ks) (hg : Blk W g 3 #[.int .i64 1]) => show Calls Try.prog 44 #[.agg #[.int .i64 ps, .slice A vs.length c, .slice (some ad) xs.length e], .slice A1 ks.length c1, .slice (some ⟨g, 0, none⟩) 1 1] W _ from ref_all_any (⟨ps, A, c, vs, some ad, e, xs⟩ : Prg) (okind vs xs) A1 c1 ks (some ⟨g, 0, none⟩) 1 [1] W hW HAS.out.of hR (IRow.one g [1] hg hg.lt) (by have := HAS.out.len; omega) (by decide))
    obtain ⟨b, hb0⟩ : ∃ b, decide (ks.map (okind vs xs) = [1]) = b := ⟨_, rfl⟩
    rw [hb0] at HALL
    have HBB := Lib.hid hb0
    clear hb0
    go_enter Try.func20, Try.ntmps20
    go_wp2_with (first
      | (go_at_call 40; refine (HE.out _ HX.out.body).mono ?_; rintro e w2 ⟨rfl, hb2⟩; have hP2 := HX.out.at hb2; obtain ⟨a0, a1, a2⟩ := HBX.out _ hb2; obtain ⟨g0, g1⟩ := HBD.out _ hP2.body; have hn3 : Below w2.heap.size w2 (w2.alloc (.cells #[.int .i64 21, .int .i64 n] 39)) := (Below.refl _ _).alloc (Nat.le_refl _) _; have hb3 := hb2.trans (hn3.mono hb2.size); have bN := Blk.new w2 39 #[.int .i64 21, .int .i64 n]; have hnl := bN.lt; have hP3 := hP2.at hn3; obtain ⟨b0, b1, b2⟩ := HBX.out _ hb3)
      | (go_at_call 41; refine (HK.out _ hP3.body).mono ?_; rintro e w4 ⟨hb, A1, c1, rfl, hR4, -⟩; have hb4 := hb3.trans (hb.mono hb3.size); have bN4 := bN.below hb hnl; obtain ⟨n0, n1⟩ := bN4.two; have hnl4 := bN4.lt; have hP4 := hP3.at hb; obtain ⟨b0, b1, b2⟩ := HBX.out _ hb4)
      | (go_at_call 42; refine (HT.out _ hP4).mono ?_; rintro e w5 ⟨rfl, hb⟩; have hb5 := hb4.trans (hb.mono hb4.size); have bN5 := bN4.below hb hnl4; obtain ⟨n0, n1⟩ := bN5.two; have hP5 := hP4.at hb; have hR5 := hR4.at hb; obtain ⟨b0, b1, b2⟩ := HBX.out _ hb5)
      | (go_at_call 44; have hn6 : Below w5.heap.size w5 (w5.alloc (.cells #[.int .i64 1] 3)) := (Below.refl _ _).alloc (Nat.le_refl _) _; refine (HALL.out _ _ _ _ (hP5.at hn6) (hR5.at hn6) (Blk.new w5 3 #[.int .i64 1])).mono ?_; rintro e w7 ⟨rfl, hb⟩; have hb7 := (hb5.trans (hn6.mono hb5.size)).trans (hb.mono (Nat.le_trans hb5.size hn6.size)))
      | (go_at_call 43; refine (HKD.out _ _ _).mono ?_; rintro e w8 ⟨rfl, rfl⟩))
    go_ret
    exact ⟨by rw [HF.out]; show Ending.returned (Value.int .i64 (ifso (b = true) 2)) = _; rw [← HBB.out, ifso_dec], hB0.trans (hb7.mono hB0.size)⟩
  have e0 : (t == 0) = false := by simpa using h0
  have e1 : (t == 1) = false := by simpa using h1
  have HF := Lib.hid (show ifso ((t = 0 ∨ t = 1) ∧ ks.map (okind vs xs) = [t]) 2 = -1 by unfold ifso; rw [if_neg (by omega)])
  go_enter Try.func20, Try.ntmps20
  go_wp2_with (first
    | (go_at_call 40; refine (HE.out _ HX.out.body).mono ?_; rintro e w2 ⟨rfl, hb2⟩; have hP2 := HX.out.at hb2; obtain ⟨a0, a1, a2⟩ := HBX.out _ hb2; obtain ⟨g0, g1⟩ := HBD.out _ hP2.body; have hn3 : Below w2.heap.size w2 (w2.alloc (.cells #[.int .i64 21, .int .i64 n] 39)) := (Below.refl _ _).alloc (Nat.le_refl _) _; have hb3 := hb2.trans (hn3.mono hb2.size); have bN := Blk.new w2 39 #[.int .i64 21, .int .i64 n]; have hnl := bN.lt; have hP3 := hP2.at hn3; obtain ⟨b0, b1, b2⟩ := HBX.out _ hb3)
    | (go_at_call 41; refine (HK.out _ hP3.body).mono ?_; rintro e w4 ⟨hb, A1, c1, rfl, hR4, -⟩; have hb4 := hb3.trans (hb.mono hb3.size); have bN4 := bN.below hb hnl; obtain ⟨n0, n1⟩ := bN4.two; have hnl4 := bN4.lt; have hP4 := hP3.at hb; obtain ⟨b0, b1, b2⟩ := HBX.out _ hb4)
    | (go_at_call 42; refine (HT.out _ hP4).mono ?_; rintro e w5 ⟨rfl, hb⟩; have hb5 := hb4.trans (hb.mono hb4.size); have bN5 := bN4.below hb hnl4; obtain ⟨n0, n1⟩ := bN5.two; have hP5 := hP4.at hb; have hR5 := hR4.at hb; obtain ⟨b0, b1, b2⟩ := HBX.out _ hb5)
    | (go_at_call 43; refine (HKD.out _ _ _).mono ?_; rintro e w8 ⟨rfl, rfl⟩))
  go_ret
  exact ⟨by rw [HF.out]; rfl, hB0.trans (hb5.mono hB0.size)⟩
set_option maxRecDepth 100000 in
set_option maxHeartbeats 2000000 in
theorem of_22 (p : Prg) (k : Nat) (n : Int) (ks : List Int) (w : World) (hp : p.Ok w) (hN : NodeAt p k 22 n ks) (hA : Asks p ks) :
    Calls Try.prog 20 #[.agg #[.int .i64 p.ps, .slice p.A p.vs.length p.c, .slice p.B p.xs.length p.e], .int .i64 k] w fun e w' => e = .returned (.int .i64 (ifso (0 < asz (vtyp p.vs n) ∧ ks.map (okind p.vs p.xs) = [0, 0]) 2)) ∧ Below w.heap.size w w' := by
  obtain ⟨ad, hB1, -, -, -⟩ := hp.body k _ hN.node
  obtain ⟨ps, A, c, vs, B, e, xs⟩ := p
  simp only at hB1
  subst hB1
  have hB0 : Below w.heap.size w (w.alloc (.cells #[.int .i64 ps, .slice A vs.length c, .slice (some ad) xs.length e] 25)) := (Below.refl _ _).alloc (Nat.le_refl _) _
  have bX := Blk.new w 25 #[.int .i64 ps, .slice A vs.length c, .slice (some ad) xs.length e]
  have hgl : w.heap.size < (w.alloc (.cells #[.int .i64 ps, .slice A vs.length c, .slice (some ad) xs.length e] 25)).heap.size := bX.lt
  have HBX := Lib.hid (fun W (h : Below (w.alloc (.cells #[.int .i64 ps, .slice A vs.length c, .slice (some ad) xs.length e] 25)).heap.size (w.alloc (.cells #[.int .i64 ps, .slice A vs.length c, .slice (some ad) xs.length e] 25)) W) => (bX.below h hgl).three)
  have HX := Lib.hid (hp.at hB0)
  have hlx : xs.length ≤ 1000000 := hp.lx
  obtain ⟨E, hE⟩ := Int.eq_ofNat_of_zero_le hN.ends
  have hks := hN.kids
  simp only at hE hks
  have HE := Lib.hid (fun W (hW : Nodes W W.heap.size (some ad) xs) => ref_End_any (some ad) e xs (k : Int) W hW hlx)
  rw [hE] at HE
  have HK := Lib.hid (fun W (hW : Nodes W W.heap.size (some ad) xs) => (ref_Kids_any (some ad) e xs (k : Int) W hW hlx).mono (fun _ _ h => h.ints))
  rw [hks] at HK
  have HT := Lib.hid (fun W (hW : Prg.Ok ⟨ps, A, c, vs, some ad, e, xs⟩ W) => ref_typed_any ⟨ps, A, c, vs, some ad, e, xs⟩ n W hW)
  have hn : xs[k]? = some (22, n) := hN.node
  have HBD := Lib.hid (fun W (hW : Nodes W W.heap.size (some ad) xs) => show W.cell? (ad.add (k * 2)) = some (.int .i64 22) ∧ W.cell? ⟨(ad.add (k * 2)).block, (ad.add (k * 2)).off + 1, none⟩ = some (.int .i64 n) from by
    obtain ⟨_, q, -, q1, q2⟩ := hW k _ hn
    cases q
    exact ⟨q1, q2⟩)
  have i1 : (k : Int) < (xs.length : Int) := by have := (List.getElem?_eq_some_iff.1 hn).1; omega
  have i2 : (0 : Int) ≤ (k : Int) := by omega
  have i3 : ¬ (E : Int) < 0 := by omega
  have HAS := Lib.hid hA
  obtain ⟨t, ht⟩ : ∃ t, vtyp vs n = t := ⟨_, rfl⟩
  simp only [ht] at HT ⊢
  clear hN hA hn hE hks hp bX ht
  obtain ⟨b0, b1, b2⟩ := HBX.out _ (Below.refl _ _)
  have HKD := Lib.hid (fun b k W => ref_kind_any b k W)
  have HSZ := Lib.hid (fun W => ref_Size_any t W)
  obtain ⟨z, hz⟩ : ∃ z, asz t = z := ⟨_, rfl⟩
  rw [hz] at HSZ ⊢
  clear hz
  by_cases hz0 : 0 < z
  · have HF := Lib.hid (show ifso (0 < z ∧ ks.map (okind vs xs) = [0, 0]) 2 = ifso (ks.map (okind vs xs) = [0, 0]) 2 from ifso_iff ⟨fun h => h.2, fun h => ⟨hz0, h⟩⟩ _)
    have HALL := Lib.hid (fun W A1 c1 g (hW : (⟨ps, A, c, vs, some ad, e, xs⟩ : Prg).Ok W) (hR : IRow W W.heap.size A1 ks) (hg : Blk W g 3 #[.int .i64 0, .int .i64 0]) => show Calls Try.prog 44 #[.agg #[.int .i64 ps, .slice A vs.length c, .slice (some ad) xs.length e], .slice A1 ks.length c1, .slice (some ⟨g, 0, none⟩) 2 2] W _ from ref_all_any (⟨ps, A, c, vs, some ad, e, xs⟩ : Prg) (okind vs xs) A1 c1 ks (some ⟨g, 0, none⟩) 2 [0, 0] W hW HAS.out.of hR (IRow.one g [0, 0] hg hg.lt) (by have := HAS.out.len; omega) (by decide))
    obtain ⟨b, hb0⟩ : ∃ b, decide (ks.map (okind vs xs) = [0, 0]) = b := ⟨_, rfl⟩
    rw [hb0] at HALL
    have HBB := Lib.hid hb0
    clear hb0
    go_enter Try.func20, Try.ntmps20
    go_wp2_with (first
      | (go_at_call 40; refine (HE.out _ HX.out.body).mono ?_; rintro e w2 ⟨rfl, hb2⟩; have hP2 := HX.out.at hb2; obtain ⟨a0, a1, a2⟩ := HBX.out _ hb2; obtain ⟨g0, g1⟩ := HBD.out _ hP2.body; have hn3 : Below w2.heap.size w2 (w2.alloc (.cells #[.int .i64 22, .int .i64 n] 39)) := (Below.refl _ _).alloc (Nat.le_refl _) _; have hb3 := hb2.trans (hn3.mono hb2.size); have bN := Blk.new w2 39 #[.int .i64 22, .int .i64 n]; have hnl := bN.lt; have hP3 := hP2.at hn3; obtain ⟨b0, b1, b2⟩ := HBX.out _ hb3)
      | (go_at_call 41; refine (HK.out _ hP3.body).mono ?_; rintro e w4 ⟨hb, A1, c1, rfl, hR4, -⟩; have hb4 := hb3.trans (hb.mono hb3.size); have bN4 := bN.below hb hnl; obtain ⟨n0, n1⟩ := bN4.two; have hnl4 := bN4.lt; have hP4 := hP3.at hb; obtain ⟨b0, b1, b2⟩ := HBX.out _ hb4)
      | (go_at_call 42; refine (HT.out _ hP4).mono ?_; rintro e w5 ⟨rfl, hb⟩; have hb5 := hb4.trans (hb.mono hb4.size); have bN5 := bN4.below hb hnl4; obtain ⟨n0, n1⟩ := bN5.two; have hP5 := hP4.at hb; have hR5 := hR4.at hb; obtain ⟨b0, b1, b2⟩ := HBX.out _ hb5)
      | (go_at_call 17; refine (HSZ.out _).mono ?_; rintro e w5 ⟨rfl, rfl⟩)
      | (go_at_call 44; have hn6 : Below w5.heap.size w5 (w5.alloc (.cells #[.int .i64 0, .int .i64 0] 3)) := (Below.refl _ _).alloc (Nat.le_refl _) _; refine (HALL.out _ _ _ _ (hP5.at hn6) (hR5.at hn6) (Blk.new w5 3 #[.int .i64 0, .int .i64 0])).mono ?_; rintro e w7 ⟨rfl, hb⟩; have hb7 := (hb5.trans (hn6.mono hb5.size)).trans (hb.mono (Nat.le_trans hb5.size hn6.size)))
      | (go_at_call 43; refine (HKD.out _ _ _).mono ?_; rintro e w8 ⟨rfl, rfl⟩))
    go_ret
    exact ⟨by rw [HF.out]; show Ending.returned (Value.int .i64 (ifso (b = true) 2)) = _; rw [← HBB.out, ifso_dec], hB0.trans (hb7.mono hB0.size)⟩
  · have HF := Lib.hid (show ifso (0 < z ∧ ks.map (okind vs xs) = [0, 0]) 2 = -1 by unfold ifso; rw [if_neg (fun h => hz0 h.1)])
    go_enter Try.func20, Try.ntmps20
    go_wp2_with (first
      | (go_at_call 40; refine (HE.out _ HX.out.body).mono ?_; rintro e w2 ⟨rfl, hb2⟩; have hP2 := HX.out.at hb2; obtain ⟨a0, a1, a2⟩ := HBX.out _ hb2; obtain ⟨g0, g1⟩ := HBD.out _ hP2.body; have hn3 : Below w2.heap.size w2 (w2.alloc (.cells #[.int .i64 22, .int .i64 n] 39)) := (Below.refl _ _).alloc (Nat.le_refl _) _; have hb3 := hb2.trans (hn3.mono hb2.size); have bN := Blk.new w2 39 #[.int .i64 22, .int .i64 n]; have hnl := bN.lt; have hP3 := hP2.at hn3; obtain ⟨b0, b1, b2⟩ := HBX.out _ hb3)
      | (go_at_call 41; refine (HK.out _ hP3.body).mono ?_; rintro e w4 ⟨hb, A1, c1, rfl, hR4, -⟩; have hb4 := hb3.trans (hb.mono hb3.size); have bN4 := bN.below hb hnl; obtain ⟨n0, n1⟩ := bN4.two; have hnl4 := bN4.lt; have hP4 := hP3.at hb; obtain ⟨b0, b1, b2⟩ := HBX.out _ hb4)
      | (go_at_call 42; refine (HT.out _ hP4).mono ?_; rintro e w5 ⟨rfl, hb⟩; have hb5 := hb4.trans (hb.mono hb4.size); have bN5 := bN4.below hb hnl4; obtain ⟨n0, n1⟩ := bN5.two; have hP5 := hP4.at hb; have hR5 := hR4.at hb; obtain ⟨b0, b1, b2⟩ := HBX.out _ hb5)
      | (go_at_call 17; refine (HSZ.out _).mono ?_; rintro e w5 ⟨rfl, rfl⟩)
      | (go_at_call 43; refine (HKD.out _ _ _).mono ?_; rintro e w8 ⟨rfl, rfl⟩))
    go_ret
    exact ⟨by rw [HF.out]; rfl, hB0.trans (hb5.mono hB0.size)⟩
set_option maxRecDepth 100000 in
set_option maxHeartbeats 2000000 in
theorem of_23 (p : Prg) (k : Nat) (n : Int) (ks : List Int) (w : World) (hp : p.Ok w) (hN : NodeAt p k 23 n ks) (hA : Asks p ks) :
    Calls Try.prog 20 #[.agg #[.int .i64 p.ps, .slice p.A p.vs.length p.c, .slice p.B p.xs.length p.e], .int .i64 k] w fun e w' => e = .returned (.int .i64 (ifso (ks.map (okind p.vs p.xs) = [1, 2, 2] ∧ tags p.xs (ks.drop 1) = true) 2)) ∧ Below w.heap.size w w' := by
  obtain ⟨ad, hB1, -, -, -⟩ := hp.body k _ hN.node
  obtain ⟨ps, A, c, vs, B, e, xs⟩ := p
  simp only at hB1
  subst hB1
  have hB0 : Below w.heap.size w (w.alloc (.cells #[.int .i64 ps, .slice A vs.length c, .slice (some ad) xs.length e] 25)) := (Below.refl _ _).alloc (Nat.le_refl _) _
  have bX := Blk.new w 25 #[.int .i64 ps, .slice A vs.length c, .slice (some ad) xs.length e]
  have hgl : w.heap.size < (w.alloc (.cells #[.int .i64 ps, .slice A vs.length c, .slice (some ad) xs.length e] 25)).heap.size := bX.lt
  have HBX := Lib.hid (fun W (h : Below (w.alloc (.cells #[.int .i64 ps, .slice A vs.length c, .slice (some ad) xs.length e] 25)).heap.size (w.alloc (.cells #[.int .i64 ps, .slice A vs.length c, .slice (some ad) xs.length e] 25)) W) => (bX.below h hgl).three)
  have HX := Lib.hid (hp.at hB0)
  have hlx : xs.length ≤ 1000000 := hp.lx
  obtain ⟨E, hE⟩ := Int.eq_ofNat_of_zero_le hN.ends
  have hks := hN.kids
  simp only at hE hks
  have HE := Lib.hid (fun W (hW : Nodes W W.heap.size (some ad) xs) => ref_End_any (some ad) e xs (k : Int) W hW hlx)
  rw [hE] at HE
  have HK := Lib.hid (fun W (hW : Nodes W W.heap.size (some ad) xs) => (ref_Kids_any (some ad) e xs (k : Int) W hW hlx).mono (fun _ _ h => h.ints))
  rw [hks] at HK
  have HT := Lib.hid (fun W (hW : Prg.Ok ⟨ps, A, c, vs, some ad, e, xs⟩ W) => ref_typed_any ⟨ps, A, c, vs, some ad, e, xs⟩ n W hW)
  have hn : xs[k]? = some (23, n) := hN.node
  have HBD := Lib.hid (fun W (hW : Nodes W W.heap.size (some ad) xs) => show W.cell? (ad.add (k * 2)) = some (.int .i64 23) ∧ W.cell? ⟨(ad.add (k * 2)).block, (ad.add (k * 2)).off + 1, none⟩ = some (.int .i64 n) from by
    obtain ⟨_, q, -, q1, q2⟩ := hW k _ hn
    cases q
    exact ⟨q1, q2⟩)
  have i1 : (k : Int) < (xs.length : Int) := by have := (List.getElem?_eq_some_iff.1 hn).1; omega
  have i2 : (0 : Int) ≤ (k : Int) := by omega
  have i3 : ¬ (E : Int) < 0 := by omega
  have HAS := Lib.hid hA
  obtain ⟨t, ht⟩ : ∃ t, vtyp vs n = t := ⟨_, rfl⟩
  simp only [ht] at HT
  clear hN hA hn hE hks hp bX ht
  obtain ⟨b0, b1, b2⟩ := HBX.out _ (Below.refl _ _)
  have HKD := Lib.hid (fun b k W => ref_kind_any b k W)
  have HALL := Lib.hid (fun W A1 c1 g (hW : (⟨ps, A, c, vs, some ad, e, xs⟩ : Prg).Ok W) (hR : IRow W W.heap.size A1 ks) (hg : Blk W g 3 #[.int .i64 1, .int .i64 2, .int .i64 2]) => show Calls Try.prog 44 #[.agg #[.int .i64 ps, .slice A vs.length c, .slice (some ad) xs.length e], .slice A1 ks.length c1, .slice (some ⟨g, 0, none⟩) 3 3] W _ from ref_all_any (⟨ps, A, c, vs, some ad, e, xs⟩ : Prg) (okind vs xs) A1 c1 ks (some ⟨g, 0, none⟩) 3 [1, 2, 2] W hW HAS.out.of hR (IRow.one g [1, 2, 2] hg hg.lt) (by have := HAS.out.len; omega) (by decide))
  obtain ⟨b, hb0⟩ : ∃ b, decide (ks.map (okind vs xs) = [1, 2, 2]) = b := ⟨_, rfl⟩
  rw [hb0] at HALL
  have HBB := Lib.hid hb0
  clear hb0
  cases b
  · have HF := Lib.hid (show ifso (ks.map (okind vs xs) = [1, 2, 2] ∧ tags xs (ks.drop 1) = true) 2 = -1 by unfold ifso; rw [if_neg (fun h => (of_decide_eq_false HBB.out) h.1)])
    go_enter Try.func20, Try.ntmps20
    go_wp2_with (first
      | (go_at_call 40; refine (HE.out _ HX.out.body).mono ?_; rintro e w2 ⟨rfl, hb2⟩; have hP2 := HX.out.at hb2; obtain ⟨a0, a1, a2⟩ := HBX.out _ hb2; obtain ⟨g0, g1⟩ := HBD.out _ hP2.body; have hn3 : Below w2.heap.size w2 (w2.alloc (.cells #[.int .i64 23, .int .i64 n] 39)) := (Below.refl _ _).alloc (Nat.le_refl _) _; have hb3 := hb2.trans (hn3.mono hb2.size); have bN := Blk.new w2 39 #[.int .i64 23, .int .i64 n]; have hnl := bN.lt; have hP3 := hP2.at hn3; obtain ⟨b0, b1, b2⟩ := HBX.out _ hb3)
      | (go_at_call 41; refine (HK.out _ hP3.body).mono ?_; rintro e w4 ⟨hb, A1, c1, rfl, hR4, -⟩; have hb4 := hb3.trans (hb.mono hb3.size); have bN4 := bN.below hb hnl; obtain ⟨n0, n1⟩ := bN4.two; have hnl4 := bN4.lt; have hP4 := hP3.at hb; obtain ⟨b0, b1, b2⟩ := HBX.out _ hb4)
      | (go_at_call 42; refine (HT.out _ hP4).mono ?_; rintro e w5 ⟨rfl, hb⟩; have hb5 := hb4.trans (hb.mono hb4.size); have bN5 := bN4.below hb hnl4; obtain ⟨n0, n1⟩ := bN5.two; have hP5 := hP4.at hb; have hR5 := hR4.at hb; obtain ⟨b0, b1, b2⟩ := HBX.out _ hb5)
      | (go_at_call 44; have hn6 : Below w5.heap.size w5 (w5.alloc (.cells #[.int .i64 1, .int .i64 2, .int .i64 2] 3)) := (Below.refl _ _).alloc (Nat.le_refl _) _; refine (HALL.out _ _ _ _ (hP5.at hn6) (hR5.at hn6) (Blk.new w5 3 #[.int .i64 1, .int .i64 2, .int .i64 2])).mono ?_; rintro e w7 ⟨rfl, hb⟩; have hb7 := (hb5.trans (hn6.mono hb5.size)).trans (hb.mono (Nat.le_trans hb5.size hn6.size)); have hP7 := (hP5.at hn6).at hb; have hR7 := (hR5.at hn6).at hb; obtain ⟨b0, b1, b2⟩ := HBX.out _ hb7)
      | (go_at_call 43; refine (HKD.out _ _ _).mono ?_; rintro e w8 ⟨rfl, rfl⟩))
    go_ret
    exact ⟨by rw [HF.out]; rfl, hB0.trans (hb7.mono hB0.size)⟩
  · have hP := of_decide_eq_true HBB.out
    have hlen : 1 ≤ ks.length := by have := congrArg List.length hP; simp at this; omega
    obtain ⟨T, hT⟩ : ∃ T, tags xs (ks.drop 1) = T := ⟨_, rfl⟩
    have HBL := Lib.hid (fun W A1 c1 (hW : (⟨ps, A, c, vs, some ad, e, xs⟩ : Prg).Ok W) (hR : IRow W W.heap.size A1 ks) => ref_blocks_any (⟨ps, A, c, vs, some ad, e, xs⟩ : Prg) A1 c1 ks W hW HAS.out.inn hR (by have := HAS.out.len; omega) hlen)
    simp only [hT] at HBL ⊢
    have HF := Lib.hid (show ifso (ks.map (okind vs xs) = [1, 2, 2] ∧ T = true) 2 = ifso (T = true) 2 from ifso_iff ⟨fun h => h.2, fun h => ⟨hP, h⟩⟩ _)
    clear hT hP hlen
    go_enter Try.func20, Try.ntmps20
    go_wp2_with (first
      | (go_at_call 40; refine (HE.out _ HX.out.body).mono ?_; rintro e w2 ⟨rfl, hb2⟩; have hP2 := HX.out.at hb2; obtain ⟨a0, a1, a2⟩ := HBX.out _ hb2; obtain ⟨g0, g1⟩ := HBD.out _ hP2.body; have hn3 : Below w2.heap.size w2 (w2.alloc (.cells #[.int .i64 23, .int .i64 n] 39)) := (Below.refl _ _).alloc (Nat.le_refl _) _; have hb3 := hb2.trans (hn3.mono hb2.size); have bN := Blk.new w2 39 #[.int .i64 23, .int .i64 n]; have hnl := bN.lt; have hP3 := hP2.at hn3; obtain ⟨b0, b1, b2⟩ := HBX.out _ hb3)
      | (go_at_call 41; refine (HK.out _ hP3.body).mono ?_; rintro e w4 ⟨hb, A1, c1, rfl, hR4, -⟩; have hb4 := hb3.trans (hb.mono hb3.size); have bN4 := bN.below hb hnl; obtain ⟨n0, n1⟩ := bN4.two; have hnl4 := bN4.lt; have hP4 := hP3.at hb; obtain ⟨b0, b1, b2⟩ := HBX.out _ hb4)
      | (go_at_call 42; refine (HT.out _ hP4).mono ?_; rintro e w5 ⟨rfl, hb⟩; have hb5 := hb4.trans (hb.mono hb4.size); have bN5 := bN4.below hb hnl4; obtain ⟨n0, n1⟩ := bN5.two; have hP5 := hP4.at hb; have hR5 := hR4.at hb; obtain ⟨b0, b1, b2⟩ := HBX.out _ hb5)
      | (go_at_call 44; have hn6 : Below w5.heap.size w5 (w5.alloc (.cells #[.int .i64 1, .int .i64 2, .int .i64 2] 3)) := (Below.refl _ _).alloc (Nat.le_refl _) _; refine (HALL.out _ _ _ _ (hP5.at hn6) (hR5.at hn6) (Blk.new w5 3 #[.int .i64 1, .int .i64 2, .int .i64 2])).mono ?_; rintro e w7 ⟨rfl, hb⟩; have hb7 := (hb5.trans (hn6.mono hb5.size)).trans (hb.mono (Nat.le_trans hb5.size hn6.size)); have hP7 := (hP5.at hn6).at hb; have hR7 := (hR5.at hn6).at hb; obtain ⟨b0, b1, b2⟩ := HBX.out _ hb7)
      | (go_at_call 43; refine (HKD.out _ _ _).mono ?_; rintro e w8 ⟨rfl, rfl⟩)
      | (go_at_call 45; refine (HBL.out _ _ _ hP7 hR7).mono ?_; rintro e w9 ⟨rfl, hb⟩; have hb9 := hb7.trans (hb.mono hb7.size)))
    go_ret
    exact ⟨by rw [HF.out]; rfl, hB0.trans (hb9.mono hB0.size)⟩
set_option maxRecDepth 100000 in
set_option maxHeartbeats 2000000 in
theorem of_24 (p : Prg) (k : Nat) (n : Int) (ks : List Int) (w : World) (hp : p.Ok w) (hN : NodeAt p k 24 n ks) (hA : Asks p ks) :
    Calls Try.prog 20 #[.agg #[.int .i64 p.ps, .slice p.A p.vs.length p.c, .slice p.B p.xs.length p.e], .int .i64 k] w fun e w' => e = .returned (.int .i64 (ifso (ks.map (okind p.vs p.xs) = [1, 2] ∧ tags p.xs (ks.drop 1) = true) 2)) ∧ Below w.heap.size w w' := by
  obtain ⟨ad, hB1, -, -, -⟩ := hp.body k _ hN.node
  obtain ⟨ps, A, c, vs, B, e, xs⟩ := p
  simp only at hB1
  subst hB1
  have hB0 : Below w.heap.size w (w.alloc (.cells #[.int .i64 ps, .slice A vs.length c, .slice (some ad) xs.length e] 25)) := (Below.refl _ _).alloc (Nat.le_refl _) _
  have bX := Blk.new w 25 #[.int .i64 ps, .slice A vs.length c, .slice (some ad) xs.length e]
  have hgl : w.heap.size < (w.alloc (.cells #[.int .i64 ps, .slice A vs.length c, .slice (some ad) xs.length e] 25)).heap.size := bX.lt
  have HBX := Lib.hid (fun W (h : Below (w.alloc (.cells #[.int .i64 ps, .slice A vs.length c, .slice (some ad) xs.length e] 25)).heap.size (w.alloc (.cells #[.int .i64 ps, .slice A vs.length c, .slice (some ad) xs.length e] 25)) W) => (bX.below h hgl).three)
  have HX := Lib.hid (hp.at hB0)
  have hlx : xs.length ≤ 1000000 := hp.lx
  obtain ⟨E, hE⟩ := Int.eq_ofNat_of_zero_le hN.ends
  have hks := hN.kids
  simp only at hE hks
  have HE := Lib.hid (fun W (hW : Nodes W W.heap.size (some ad) xs) => ref_End_any (some ad) e xs (k : Int) W hW hlx)
  rw [hE] at HE
  have HK := Lib.hid (fun W (hW : Nodes W W.heap.size (some ad) xs) => (ref_Kids_any (some ad) e xs (k : Int) W hW hlx).mono (fun _ _ h => h.ints))
  rw [hks] at HK
  have HT := Lib.hid (fun W (hW : Prg.Ok ⟨ps, A, c, vs, some ad, e, xs⟩ W) => ref_typed_any ⟨ps, A, c, vs, some ad, e, xs⟩ n W hW)
  have hn : xs[k]? = some (24, n) := hN.node
  have HBD := Lib.hid (fun W (hW : Nodes W W.heap.size (some ad) xs) => show W.cell? (ad.add (k * 2)) = some (.int .i64 24) ∧ W.cell? ⟨(ad.add (k * 2)).block, (ad.add (k * 2)).off + 1, none⟩ = some (.int .i64 n) from by
    obtain ⟨_, q, -, q1, q2⟩ := hW k _ hn
    cases q
    exact ⟨q1, q2⟩)
  have i1 : (k : Int) < (xs.length : Int) := by have := (List.getElem?_eq_some_iff.1 hn).1; omega
  have i2 : (0 : Int) ≤ (k : Int) := by omega
  have i3 : ¬ (E : Int) < 0 := by omega
  have HAS := Lib.hid hA
  obtain ⟨t, ht⟩ : ∃ t, vtyp vs n = t := ⟨_, rfl⟩
  simp only [ht] at HT
  clear hN hA hn hE hks hp bX ht
  obtain ⟨b0, b1, b2⟩ := HBX.out _ (Below.refl _ _)
  have HKD := Lib.hid (fun b k W => ref_kind_any b k W)
  have HALL := Lib.hid (fun W A1 c1 g (hW : (⟨ps, A, c, vs, some ad, e, xs⟩ : Prg).Ok W) (hR : IRow W W.heap.size A1 ks) (hg : Blk W g 3 #[.int .i64 1, .int .i64 2]) => show Calls Try.prog 44 #[.agg #[.int .i64 ps, .slice A vs.length c, .slice (some ad) xs.length e], .slice A1 ks.length c1, .slice (some ⟨g, 0, none⟩) 2 2] W _ from ref_all_any (⟨ps, A, c, vs, some ad, e, xs⟩ : Prg) (okind vs xs) A1 c1 ks (some ⟨g, 0, none⟩) 2 [1, 2] W hW HAS.out.of hR (IRow.one g [1, 2] hg hg.lt) (by have := HAS.out.len; omega) (by decide))
  obtain ⟨b, hb0⟩ : ∃ b, decide (ks.map (okind vs xs) = [1, 2]) = b := ⟨_, rfl⟩
  rw [hb0] at HALL
  have HBB := Lib.hid hb0
  clear hb0
  cases b
  · have HF := Lib.hid (show ifso (ks.map (okind vs xs) = [1, 2] ∧ tags xs (ks.drop 1) = true) 2 = -1 by unfold ifso; rw [if_neg (fun h => (of_decide_eq_false HBB.out) h.1)])
    go_enter Try.func20, Try.ntmps20
    go_wp2_with (first
      | (go_at_call 40; refine (HE.out _ HX.out.body).mono ?_; rintro e w2 ⟨rfl, hb2⟩; have hP2 := HX.out.at hb2; obtain ⟨a0, a1, a2⟩ := HBX.out _ hb2; obtain ⟨g0, g1⟩ := HBD.out _ hP2.body; have hn3 : Below w2.heap.size w2 (w2.alloc (.cells #[.int .i64 24, .int .i64 n] 39)) := (Below.refl _ _).alloc (Nat.le_refl _) _; have hb3 := hb2.trans (hn3.mono hb2.size); have bN := Blk.new w2 39 #[.int .i64 24, .int .i64 n]; have hnl := bN.lt; have hP3 := hP2.at hn3; obtain ⟨b0, b1, b2⟩ := HBX.out _ hb3)
      | (go_at_call 41; refine (HK.out _ hP3.body).mono ?_; rintro e w4 ⟨hb, A1, c1, rfl, hR4, -⟩; have hb4 := hb3.trans (hb.mono hb3.size); have bN4 := bN.below hb hnl; obtain ⟨n0, n1⟩ := bN4.two; have hnl4 := bN4.lt; have hP4 := hP3.at hb; obtain ⟨b0, b1, b2⟩ := HBX.out _ hb4)
      | (go_at_call 42; refine (HT.out _ hP4).mono ?_; rintro e w5 ⟨rfl, hb⟩; have hb5 := hb4.trans (hb.mono hb4.size); have bN5 := bN4.below hb hnl4; obtain ⟨n0, n1⟩ := bN5.two; have hP5 := hP4.at hb; have hR5 := hR4.at hb; obtain ⟨b0, b1, b2⟩ := HBX.out _ hb5)
      | (go_at_call 44; have hn6 : Below w5.heap.size w5 (w5.alloc (.cells #[.int .i64 1, .int .i64 2] 3)) := (Below.refl _ _).alloc (Nat.le_refl _) _; refine (HALL.out _ _ _ _ (hP5.at hn6) (hR5.at hn6) (Blk.new w5 3 #[.int .i64 1, .int .i64 2])).mono ?_; rintro e w7 ⟨rfl, hb⟩; have hb7 := (hb5.trans (hn6.mono hb5.size)).trans (hb.mono (Nat.le_trans hb5.size hn6.size)); have hP7 := (hP5.at hn6).at hb; have hR7 := (hR5.at hn6).at hb; obtain ⟨b0, b1, b2⟩ := HBX.out _ hb7)
      | (go_at_call 43; refine (HKD.out _ _ _).mono ?_; rintro e w8 ⟨rfl, rfl⟩))
    go_ret
    exact ⟨by rw [HF.out]; rfl, hB0.trans (hb7.mono hB0.size)⟩
  · have hP := of_decide_eq_true HBB.out
    have hlen : 1 ≤ ks.length := by have := congrArg List.length hP; simp at this; omega
    obtain ⟨T, hT⟩ : ∃ T, tags xs (ks.drop 1) = T := ⟨_, rfl⟩
    have HBL := Lib.hid (fun W A1 c1 (hW : (⟨ps, A, c, vs, some ad, e, xs⟩ : Prg).Ok W) (hR : IRow W W.heap.size A1 ks) => ref_blocks_any (⟨ps, A, c, vs, some ad, e, xs⟩ : Prg) A1 c1 ks W hW HAS.out.inn hR (by have := HAS.out.len; omega) hlen)
    simp only [hT] at HBL ⊢
    have HF := Lib.hid (show ifso (ks.map (okind vs xs) = [1, 2] ∧ T = true) 2 = ifso (T = true) 2 from ifso_iff ⟨fun h => h.2, fun h => ⟨hP, h⟩⟩ _)
    clear hT hP hlen
    go_enter Try.func20, Try.ntmps20
    go_wp2_with (first
      | (go_at_call 40; refine (HE.out _ HX.out.body).mono ?_; rintro e w2 ⟨rfl, hb2⟩; have hP2 := HX.out.at hb2; obtain ⟨a0, a1, a2⟩ := HBX.out _ hb2; obtain ⟨g0, g1⟩ := HBD.out _ hP2.body; have hn3 : Below w2.heap.size w2 (w2.alloc (.cells #[.int .i64 24, .int .i64 n] 39)) := (Below.refl _ _).alloc (Nat.le_refl _) _; have hb3 := hb2.trans (hn3.mono hb2.size); have bN := Blk.new w2 39 #[.int .i64 24, .int .i64 n]; have hnl := bN.lt; have hP3 := hP2.at hn3; obtain ⟨b0, b1, b2⟩ := HBX.out _ hb3)
      | (go_at_call 41; refine (HK.out _ hP3.body).mono ?_; rintro e w4 ⟨hb, A1, c1, rfl, hR4, -⟩; have hb4 := hb3.trans (hb.mono hb3.size); have bN4 := bN.below hb hnl; obtain ⟨n0, n1⟩ := bN4.two; have hnl4 := bN4.lt; have hP4 := hP3.at hb; obtain ⟨b0, b1, b2⟩ := HBX.out _ hb4)
      | (go_at_call 42; refine (HT.out _ hP4).mono ?_; rintro e w5 ⟨rfl, hb⟩; have hb5 := hb4.trans (hb.mono hb4.size); have bN5 := bN4.below hb hnl4; obtain ⟨n0, n1⟩ := bN5.two; have hP5 := hP4.at hb; have hR5 := hR4.at hb; obtain ⟨b0, b1, b2⟩ := HBX.out _ hb5)
      | (go_at_call 44; have hn6 : Below w5.heap.size w5 (w5.alloc (.cells #[.int .i64 1, .int .i64 2] 3)) := (Below.refl _ _).alloc (Nat.le_refl _) _; refine (HALL.out _ _ _ _ (hP5.at hn6) (hR5.at hn6) (Blk.new w5 3 #[.int .i64 1, .int .i64 2])).mono ?_; rintro e w7 ⟨rfl, hb⟩; have hb7 := (hb5.trans (hn6.mono hb5.size)).trans (hb.mono (Nat.le_trans hb5.size hn6.size)); have hP7 := (hP5.at hn6).at hb; have hR7 := (hR5.at hn6).at hb; obtain ⟨b0, b1, b2⟩ := HBX.out _ hb7)
      | (go_at_call 43; refine (HKD.out _ _ _).mono ?_; rintro e w8 ⟨rfl, rfl⟩)
      | (go_at_call 45; refine (HBL.out _ _ _ hP7 hR7).mono ?_; rintro e w9 ⟨rfl, hb⟩; have hb9 := hb7.trans (hb.mono hb7.size)))
    go_ret
    exact ⟨by rw [HF.out]; rfl, hB0.trans (hb9.mono hB0.size)⟩
set_option maxRecDepth 100000 in
set_option maxHeartbeats 2000000 in
theorem of_25 (p : Prg) (k : Nat) (n : Int) (ks : List Int) (w : World) (hp : p.Ok w) (hN : NodeAt p k 25 n ks) (hA : Asks p ks) :
    Calls Try.prog 20 #[.agg #[.int .i64 p.ps, .slice p.A p.vs.length p.c, .slice p.B p.xs.length p.e], .int .i64 k] w fun e w' => e = .returned (.int .i64 (ifso (ks.map (okind p.vs p.xs) = [0]) 2)) ∧ Below w.heap.size w w' := by
  obtain ⟨ad, hB1, -, -, -⟩ := hp.body k _ hN.node
  obtain ⟨ps, A, c, vs, B, e, xs⟩ := p
  simp only at hB1
  subst hB1
  have hB0 : Below w.heap.size w (w.alloc (.cells #[.int .i64 ps, .slice A vs.length c, .slice (some ad) xs.length e] 25)) := (Below.refl _ _).alloc (Nat.le_refl _) _
  have bX := Blk.new w 25 #[.int .i64 ps, .slice A vs.length c, .slice (some ad) xs.length e]
  have hgl : w.heap.size < (w.alloc (.cells #[.int .i64 ps, .slice A vs.length c, .slice (some ad) xs.length e] 25)).heap.size := bX.lt
  have HBX := Lib.hid (fun W (h : Below (w.alloc (.cells #[.int .i64 ps, .slice A vs.length c, .slice (some ad) xs.length e] 25)).heap.size (w.alloc (.cells #[.int .i64 ps, .slice A vs.length c, .slice (some ad) xs.length e] 25)) W) => (bX.below h hgl).three)
  have HX := Lib.hid (hp.at hB0)
  have hlx : xs.length ≤ 1000000 := hp.lx
  obtain ⟨E, hE⟩ := Int.eq_ofNat_of_zero_le hN.ends
  have hks := hN.kids
  simp only at hE hks
  have HE := Lib.hid (fun W (hW : Nodes W W.heap.size (some ad) xs) => ref_End_any (some ad) e xs (k : Int) W hW hlx)
  rw [hE] at HE
  have HK := Lib.hid (fun W (hW : Nodes W W.heap.size (some ad) xs) => (ref_Kids_any (some ad) e xs (k : Int) W hW hlx).mono (fun _ _ h => h.ints))
  rw [hks] at HK
  have HT := Lib.hid (fun W (hW : Prg.Ok ⟨ps, A, c, vs, some ad, e, xs⟩ W) => ref_typed_any ⟨ps, A, c, vs, some ad, e, xs⟩ n W hW)
  have hn : xs[k]? = some (25, n) := hN.node
  have HBD := Lib.hid (fun W (hW : Nodes W W.heap.size (some ad) xs) => show W.cell? (ad.add (k * 2)) = some (.int .i64 25) ∧ W.cell? ⟨(ad.add (k * 2)).block, (ad.add (k * 2)).off + 1, none⟩ = some (.int .i64 n) from by
    obtain ⟨_, q, -, q1, q2⟩ := hW k _ hn
    cases q
    exact ⟨q1, q2⟩)
  have i1 : (k : Int) < (xs.length : Int) := by have := (List.getElem?_eq_some_iff.1 hn).1; omega
  have i2 : (0 : Int) ≤ (k : Int) := by omega
  have i3 : ¬ (E : Int) < 0 := by omega
  have HAS := Lib.hid hA
  obtain ⟨t, ht⟩ : ∃ t, vtyp vs n = t := ⟨_, rfl⟩
  simp only [ht] at HT
  clear hN hA hn hE hks hp bX ht
  obtain ⟨b0, b1, b2⟩ := HBX.out _ (Below.refl _ _)
  have HALL := Lib.hid (fun W A1 c1 g (hW : (⟨ps, A, c, vs, some ad, e, xs⟩ : Prg).Ok W) (hR : IRow W W.heap.size A1 ks) (hg : Blk W g 3 #[.int .i64 0]) => show Calls Try.prog 44 #[.agg #[.int .i64 ps, .slice A vs.length c, .slice (some ad) xs.length e], .slice A1 ks.length c1, .slice (some ⟨g, 0, none⟩) 1 1] W _ from ref_all_any (⟨ps, A, c, vs, some ad, e, xs⟩ : Prg) (okind vs xs) A1 c1 ks (some ⟨g, 0, none⟩) 1 [0] W hW HAS.out.of hR (IRow.one g [0] hg hg.lt) (by have := HAS.out.len; omega) (by decide))
  obtain ⟨b, hb0⟩ : ∃ b, decide (ks.map (okind vs xs) = [0]) = b := ⟨_, rfl⟩
  rw [hb0] at HALL
  have HBB := Lib.hid hb0
  clear hb0
  have HKD := Lib.hid (fun k W => ref_kind_any b k W)
  go_enter Try.func20, Try.ntmps20
  go_wp2_with (first
    | (go_at_call 40; refine (HE.out _ HX.out.body).mono ?_; rintro e w2 ⟨rfl, hb2⟩; have hP2 := HX.out.at hb2; obtain ⟨a0, a1, a2⟩ := HBX.out _ hb2; obtain ⟨g0, g1⟩ := HBD.out _ hP2.body; have hn3 : Below w2.heap.size w2 (w2.alloc (.cells #[.int .i64 25, .int .i64 n] 39)) := (Below.refl _ _).alloc (Nat.le_refl _) _; have hb3 := hb2.trans (hn3.mono hb2.size); have bN := Blk.new w2 39 #[.int .i64 25, .int .i64 n]; have hnl := bN.lt; have hP3 := hP2.at hn3; obtain ⟨b0, b1, b2⟩ := HBX.out _ hb3)
    | (go_at_call 41; refine (HK.out _ hP3.body).mono ?_; rintro e w4 ⟨hb, A1, c1, rfl, hR4, -⟩; have hb4 := hb3.trans (hb.mono hb3.size); have bN4 := bN.below hb hnl; obtain ⟨n0, n1⟩ := bN4.two; have hnl4 := bN4.lt; have hP4 := hP3.at hb; obtain ⟨b0, b1, b2⟩ := HBX.out _ hb4)
    | (go_at_call 42; refine (HT.out _ hP4).mono ?_; rintro e w5 ⟨rfl, hb⟩; have hb5 := hb4.trans (hb.mono hb4.size); have bN5 := bN4.below hb hnl4; obtain ⟨n0, n1⟩ := bN5.two; have hP5 := hP4.at hb; have hR5 := hR4.at hb; obtain ⟨b0, b1, b2⟩ := HBX.out _ hb5)
    | (go_at_call 44; have hn6 : Below w5.heap.size w5 (w5.alloc (.cells #[.int .i64 0] 3)) := (Below.refl _ _).alloc (Nat.le_refl _) _; refine (HALL.out _ _ _ _ (hP5.at hn6) (hR5.at hn6) (Blk.new w5 3 #[.int .i64 0])).mono ?_; rintro e w7 ⟨rfl, hb⟩; have hb7 := (hb5.trans (hn6.mono hb5.size)).trans (hb.mono (Nat.le_trans hb5.size hn6.size)))
    | (go_at_call 43; refine (HKD.out _ _).mono ?_; rintro e w8 ⟨rfl, rfl⟩))
  go_ret
  exact ⟨by show Ending.returned (Value.int .i64 (ifso (b = true) 2)) = _; rw [← HBB.out, ifso_dec], hB0.trans (hb7.mono hB0.size)⟩
set_option maxRecDepth 100000 in
set_option maxHeartbeats 2000000 in
theorem of_26 (p : Prg) (k : Nat) (n : Int) (ks : List Int) (w : World) (hp : p.Ok w) (hN : NodeAt p k 26 n ks) (hA : Asks p ks) :
    Calls Try.prog 20 #[.agg #[.int .i64 p.ps, .slice p.A p.vs.length p.c, .slice p.B p.xs.length p.e], .int .i64 k] w fun e w' => e = .returned (.int .i64 (2)) ∧ Below w.heap.size w w' := by
  obtain ⟨ad, hB1, -, -, -⟩ := hp.body k _ hN.node
  obtain ⟨ps, A, c, vs, B, e, xs⟩ := p
  simp only at hB1
  subst hB1
  have hB0 : Below w.heap.size w (w.alloc (.cells #[.int .i64 ps, .slice A vs.length c, .slice (some ad) xs.length e] 25)) := (Below.refl _ _).alloc (Nat.le_refl _) _
  have bX := Blk.new w 25 #[.int .i64 ps, .slice A vs.length c, .slice (some ad) xs.length e]
  have hgl : w.heap.size < (w.alloc (.cells #[.int .i64 ps, .slice A vs.length c, .slice (some ad) xs.length e] 25)).heap.size := bX.lt
  have HBX := Lib.hid (fun W (h : Below (w.alloc (.cells #[.int .i64 ps, .slice A vs.length c, .slice (some ad) xs.length e] 25)).heap.size (w.alloc (.cells #[.int .i64 ps, .slice A vs.length c, .slice (some ad) xs.length e] 25)) W) => (bX.below h hgl).three)
  have HX := Lib.hid (hp.at hB0)
  have hlx : xs.length ≤ 1000000 := hp.lx
  obtain ⟨E, hE⟩ := Int.eq_ofNat_of_zero_le hN.ends
  have hks := hN.kids
  simp only at hE hks
  have HE := Lib.hid (fun W (hW : Nodes W W.heap.size (some ad) xs) => ref_End_any (some ad) e xs (k : Int) W hW hlx)
  rw [hE] at HE
  have HK := Lib.hid (fun W (hW : Nodes W W.heap.size (some ad) xs) => (ref_Kids_any (some ad) e xs (k : Int) W hW hlx).mono (fun _ _ h => h.ints))
  rw [hks] at HK
  have HT := Lib.hid (fun W (hW : Prg.Ok ⟨ps, A, c, vs, some ad, e, xs⟩ W) => ref_typed_any ⟨ps, A, c, vs, some ad, e, xs⟩ n W hW)
  have hn : xs[k]? = some (26, n) := hN.node
  have HBD := Lib.hid (fun W (hW : Nodes W W.heap.size (some ad) xs) => show W.cell? (ad.add (k * 2)) = some (.int .i64 26) ∧ W.cell? ⟨(ad.add (k * 2)).block, (ad.add (k * 2)).off + 1, none⟩ = some (.int .i64 n) from by
    obtain ⟨_, q, -, q1, q2⟩ := hW k _ hn
    cases q
    exact ⟨q1, q2⟩)
  have i1 : (k : Int) < (xs.length : Int) := by have := (List.getElem?_eq_some_iff.1 hn).1; omega
  have i2 : (0 : Int) ≤ (k : Int) := by omega
  have i3 : ¬ (E : Int) < 0 := by omega
  have HAS := Lib.hid hA
  obtain ⟨t, ht⟩ : ∃ t, vtyp vs n = t := ⟨_, rfl⟩
  simp only [ht] at HT
  clear hN hA hn hE hks hp bX ht
  obtain ⟨b0, b1, b2⟩ := HBX.out _ (Below.refl _ _)
  go_enter Try.func20, Try.ntmps20
  go_wp2_with (first
    | (go_at_call 40; refine (HE.out _ HX.out.body).mono ?_; rintro e w2 ⟨rfl, hb2⟩; have hP2 := HX.out.at hb2; obtain ⟨a0, a1, a2⟩ := HBX.out _ hb2; obtain ⟨g0, g1⟩ := HBD.out _ hP2.body; have hn3 : Below w2.heap.size w2 (w2.alloc (.cells #[.int .i64 26, .int .i64 n] 39)) := (Below.refl _ _).alloc (Nat.le_refl _) _; have hb3 := hb2.trans (hn3.mono hb2.size); have bN := Blk.new w2 39 #[.int .i64 26, .int .i64 n]; have hnl := bN.lt; have hP3 := hP2.at hn3; obtain ⟨b0, b1, b2⟩ := HBX.out _ hb3)
    | (go_at_call 41; refine (HK.out _ hP3.body).mono ?_; rintro e w4 ⟨hb, A1, c1, rfl, hR4, -⟩; have hb4 := hb3.trans (hb.mono hb3.size); have bN4 := bN.below hb hnl; obtain ⟨n0, n1⟩ := bN4.two; have hnl4 := bN4.lt; have hP4 := hP3.at hb; obtain ⟨b0, b1, b2⟩ := HBX.out _ hb4)
    | (go_at_call 42; refine (HT.out _ hP4).mono ?_; rintro e w5 ⟨rfl, hb⟩; have hb5 := hb4.trans (hb.mono hb4.size); have bN5 := bN4.below hb hnl4; obtain ⟨n0, n1⟩ := bN5.two; have hP5 := hP4.at hb; have hR5 := hR4.at hb; obtain ⟨b0, b1, b2⟩ := HBX.out _ hb5))
  go_ret
  exact ⟨rfl, hB0.trans (hb5.mono hB0.size)⟩
end Go.Proofs.Yteknfglfbkknaaa.Kinds
