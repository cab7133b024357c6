/-
  The reference of deltas, walked: a program that is changed.
-/
import Derived.Test.YthkhonkibigdaaaDeltaRefE
namespace Go.Proofs.Ythkhonkibigdaaa.Delta
open Go.RowKit Mem _root_.Go.Proofs.Ythkhonkibigdaaa.Arena _root_.Go.Proofs.Ythkhonkibigdaaa.Kinds _root_.Go.Proofs.Ythkhonkibigdaaa.Path
set_option linter.unusedVariables false
attribute [local go_sem ↓] Go.wp_at_zero Go.wp_at_succ

/-- Nodes don't lie in a program's variable. -/
theorem nodes_off {w : World} {B R : Nat} {t : TypeId} {ad : Addr} {xs : List Nd} {k : Int} {a b : Value} (h : Nodes w B (some ad) xs) (hx : xs ≠ []) (hR : Blk w R t #[.int .i64 k, a, b]) (ha : ∀ z, a ≠ .int .i64 z) (hb : ∀ z, b ≠ .int .i64 z) : ad.block ≠ R := by
  intro he
  cases xs with
  | nil => exact hx rfl
  | cons x xs =>
    obtain ⟨ad', e, -, h1, h2⟩ := h 0 x rfl
    cases e
    rw [Nat.zero_mul, show ad.add 0 = ad by simp [Addr.add]] at h1 h2
    have c := fun (o : Nat) => hR.cell o
    obtain ⟨bk, o, m⟩ := ad
    simp only at he h1 h2
    subst he
    unfold Blk at hR
    have key : ∀ (o : Nat) (m : _) (v : Value), w.cell? ⟨bk, o, m⟩ = some v → (#[.int .i64 k, a, b] : Array Value)[o]? = some v := fun o m v q => by
      simp [World.cell?, hR] at q
      have q2 := q.2
      simpa using q2
    have k1 := key o m _ h1
    have k2 := key (o + 1) none _ h2
    match o, k1, k2 with
    | 0, _, k2 => simp at k2; exact ha _ k2
    | 1, k1, _ => simp at k1; exact ha _ k1
    | 2, k1, _ => simp at k1; exact hb _ k1
    | o + 3, k1, _ => simp at k1
theorem nodes_sets {w : World} {R : Nat} {t : TypeId} {A : Option Addr} {xs : List Nd} {k : Int} {a b : Value} (h : Nodes w w.heap.size A xs) (hR : Blk w R t #[.int .i64 k, a, b]) (ha : ∀ z, a ≠ .int .i64 z) (hb : ∀ z, b ≠ .int .i64 z) (v0 v1 v2 : Value) :
    Nodes (((w.setCell ⟨R, 0, none⟩ v0).setCell ⟨R, 1, none⟩ v1).setCell ⟨R, 2, none⟩ v2) (((w.setCell ⟨R, 0, none⟩ v0).setCell ⟨R, 1, none⟩ v1).setCell ⟨R, 2, none⟩ v2).heap.size A xs := by
  intro i x hx
  obtain ⟨ad, rfl, hlt, h1, h2⟩ := h i x hx
  have hne := nodes_off h (fun e => by rw [e] at hx; cases hx) hR ha hb
  have hk : ∀ q : Addr, q.block = ad.block → (((w.setCell ⟨R, 0, none⟩ v0).setCell ⟨R, 1, none⟩ v1).setCell ⟨R, 2, none⟩ v2).cell? q = w.cell? q := fun q hq => by
    refine World.cell?_of_block ?_
    rw [hq, Below.heap_setCell _ _ _ _ hne, Below.heap_setCell _ _ _ _ hne, Below.heap_setCell _ _ _ _ hne]
  exact ⟨ad, rfl, by simpa [World.setCell] using hlt, by rw [hk _ (add_blockN _ _)]; exact h1, by rw [hk ⟨(ad.add (i * 2)).block, (ad.add (i * 2)).off + 1, none⟩ (add_blockN _ _)]; exact h2⟩
theorem row_sets {w : World} {R : Nat} {A : Option Addr} {ks : List Int} (h : IRow w w.heap.size A ks) (hR : ∀ ad, A = some ad → ks ≠ [] → ad.block ≠ R) (v0 v1 v2 : Value) :
    IRow (((w.setCell ⟨R, 0, none⟩ v0).setCell ⟨R, 1, none⟩ v1).setCell ⟨R, 2, none⟩ v2) (((w.setCell ⟨R, 0, none⟩ v0).setCell ⟨R, 1, none⟩ v1).setCell ⟨R, 2, none⟩ v2).heap.size A ks := by
  intro i x hx
  obtain ⟨ad, rfl, hlt, h1⟩ := h i x hx
  have hne := hR ad rfl (fun e => by rw [e] at hx; simp at hx)
  refine ⟨ad, rfl, by simpa [World.setCell] using hlt, ?_⟩
  rw [← h1]
  refine World.cell?_of_block ?_
  rw [add_blockN, Below.heap_setCell _ _ _ _ hne, Below.heap_setCell _ _ _ _ hne, Below.heap_setCell _ _ _ _ hne]

theorem zero_ok (w : World) : Prg.Ok ⟨0, none, 0, [], none, 0, []⟩ w := ⟨fun i x h => by simp at h, fun i x h => by simp at h, by simp, by simp, by simp, by simp, fun _ => rfl, fun _ => rfl⟩

set_option maxRecDepth 100000 in
set_option maxHeartbeats 4000000 in
theorem ref_Apply_any (p : Prg) (d : Dlt) (w : World) (hp : p.Ok w) (hd : d.Ok w) (hx : p.xs.length ≤ 100000) :
    Calls Try.prog 12 #[.agg #[.int .i64 p.ps, .slice p.A p.vs.length p.c, .slice p.B p.xs.length p.e], .agg #[.slice d.A d.p.length d.c, .int .i64 d.op, .int .i64 d.n]] w (AEnds p d w) := by
  obtain ⟨ps, A, c, vs, B, ce, xs⟩ := p
  obtain ⟨DA, dc, q, op, v⟩ := d
  simp only at *
  have hB1 : Below w.heap.size w (w.alloc (.cells #[.int .i64 ps, .slice A vs.length c, .slice B xs.length ce] 25)) := (Below.refl _ _).alloc (Nat.le_refl _) _
  have hB2 := hB1.alloc hB1.size (.cells #[.slice DA q.length dc, .int .i64 op, .int .i64 v] 27)
  have hB3 := hB2.alloc hB2.size (.cells #[.int .i64 0, .slice none 0 0, .slice none 0 0] 25)
  have bP := ((Blk.new w 25 #[.int .i64 ps, .slice A vs.length c, .slice B xs.length ce]).alloc (.cells #[.slice DA q.length dc, .int .i64 op, .int .i64 v] 27)).alloc (.cells #[.int .i64 0, .slice none 0 0, .slice none 0 0] 25)
  have bD := (Blk.new (w.alloc (.cells #[.int .i64 ps, .slice A vs.length c, .slice B xs.length ce] 25)) 27 #[.slice DA q.length dc, .int .i64 op, .int .i64 v]).alloc (.cells #[.int .i64 0, .slice none 0 0, .slice none 0 0] 25)
  have bR := Blk.new ((w.alloc (.cells #[.int .i64 ps, .slice A vs.length c, .slice B xs.length ce] 25)).alloc (.cells #[.slice DA q.length dc, .int .i64 op, .int .i64 v] 27)) 25 #[.int .i64 0, .slice none 0 0, .slice none 0 0]
  simp only [World.size_alloc] at bD bR
  obtain ⟨w3, hw3⟩ : ∃ w3, ((w.alloc (.cells #[.int .i64 ps, .slice A vs.length c, .slice B xs.length ce] 25)).alloc (.cells #[.slice DA q.length dc, .int .i64 op, .int .i64 v] 27)).alloc (.cells #[.int .i64 0, .slice none 0 0, .slice none 0 0] 25) = w3 := ⟨_, rfl⟩
  rw [hw3] at hB3 bP bD bR
  have HW3 := Lib.hid hw3
  have hp3 := hp.at hB3
  have hd3 := hd.at hB3
  have HF := Lib.hid (Path.ref_Find_any B ce xs DA dc q w3 hp3.body hp3.lx hd3.path hd3.len)
  obtain ⟨p0, p1, p2⟩ := bP.three
  obtain ⟨d0, d1, d2⟩ := bD.three
  have HP := Lib.hid hp
  have HD := Lib.hid hd
  have HBP := Lib.hid bP
  have HBD := Lib.hid bD
  have HBR := Lib.hid bR
  have hlR := bR.lt
  have hlD := bD.lt
  have hlP := bP.lt
  clear hB1 hB2 hw3 hp3 hd3 hp hd bP bD bR
  rcases find_cases xs q with hf | ⟨a, m, x, hf, hs, hxa, ham, hm1⟩
  · have HE := Lib.hid (aerr_path hf op v)
    rw [hf] at HF
    clear hf
    go_enter Try.func12, Try.ntmps12
    go_wp2_with (go_at_call 26; rw [HW3.out]; refine HF.out.mono ?_; rintro e w4 ⟨rfl, hb4⟩; have hB4 := hB3.trans (hb4.mono hB3.size); have bR4 := HBR.out.below hb4 hlR; obtain ⟨r0, r1, r2⟩ := bR4.three; have rf := bR4.frozen)
    refine bodyPost_ret (v := .tuple #[.agg #[.int .i64 0, .slice none 0 0, .slice none 0 0], .int .i64 16]) (by simp [results, Try.results12, go_sem, r0, r1, r2]) rfl ?_
    refine ⟨((hB4.setCell (p := ⟨w.heap.size + 1 + 1, 0, none⟩) (by simp; omega) _).setCell (p := ⟨w.heap.size + 1 + 1, 1, none⟩) (by simp; omega) _).setCell (p := ⟨w.heap.size + 1 + 1, 2, none⟩) (by simp; omega) _, .inr ⟨by rw [HE.out]; decide, none, 0, none, 0, by rw [HE.out], zero_ok _⟩⟩
  · rw [hf] at HF
    have e1 : ¬ (a : Int) < 0 := by omega
    have HM := Lib.hid (fun W => ref_may_any x.1 x.2 op v W)
    have i1 : (a : Int) < (xs.length : Int) := by omega
    have i2 : (0 : Int) ≤ (a : Int) := by omega
    have HAT := Lib.hid (aerr_at hf hxa op v)
    by_cases hm : dmay x.1 op v = true
    · have HE := Lib.hid (show aerr xs q op v = 0 by rw [HAT.out, if_pos hm])
      have HN := Lib.hid (show anew xs q op v = dch xs a op v by unfold anew; rw [hf, Int.toNat_natCast])
      have HL := Lib.hid (anew_len HE.out)
      have HC := Lib.hid (fun W (h : Nodes W W.heap.size B xs) => show Calls Try.prog 28 #[.slice B xs.length ce, .int .i64 a, .agg #[.slice DA q.length dc, .int .i64 op, .int .i64 v]] W (NodesEnds (dch xs a op v) W) from ref_changed_any B ce xs a m x ⟨DA, dc, q, op, v⟩ W h HP.out.lx hs hxa hm)
      rw [hm] at HM
      obtain ⟨ad, hB, -, -⟩ := HP.out.body a x hxa
      simp only at hB
      subst hB
      have HG := Lib.hid (fun W (h : Below w.heap.size w W) => show W.cell? (ad.add (a * 2)) = some (.int .i64 x.1) ∧ W.cell? ⟨(ad.add (a * 2)).block, (ad.add (a * 2)).off + 1, none⟩ = some (.int .i64 x.2) from by
        obtain ⟨ad', e, -, h0, h1⟩ := (HP.out.body.below h) a x hxa
        cases e
        exact ⟨h0, h1⟩)
      clear hf hm HAT hs hxa
      go_enter Try.func12, Try.ntmps12
      go_wp2_with (first
        | (go_at_call 26; rw [HW3.out]; refine HF.out.mono ?_; rintro e w4 ⟨rfl, hb4⟩; have hB4 := hB3.trans (hb4.mono hB3.size); have bR4 := HBR.out.below hb4 hlR; have bP4 := HBP.out.below hb4 hlP; have bD4 := HBD.out.below hb4 hlD; obtain ⟨p0, p1, p2⟩ := bP4.three; obtain ⟨d0, d1, d2⟩ := bD4.three; obtain ⟨g0, g1⟩ := HG.out _ hB4
           have bZ4 := Blk.new w4 45 #[.int .i64 x.1, .int .i64 x.2]
           have ba4 := (Below.refl w4.heap.size w4).alloc (Nat.le_refl _) (.cells #[.int .i64 x.1, .int .i64 x.2] 45)
           have bP5 := bP4.below ba4 bP4.lt; have bD5 := bD4.below ba4 bD4.lt; have bR5 := bR4.below ba4 bR4.lt; have hB5 := hB4.trans (ba4.mono hB4.size)
           obtain ⟨z0, z1⟩ := bZ4.two; obtain ⟨d0, d1, d2⟩ := bD5.three)
        | (go_at_call 27; refine (HM.out _).mono ?_; rintro e w6 ⟨rfl, hb6⟩; have bP6 := bP5.below hb6 bP5.lt; have bD6 := bD5.below hb6 bD5.lt; have bR6 := bR5.below hb6 bR5.lt; have hB6 := hB5.trans (hb6.mono hB5.size); obtain ⟨p0, p1, p2⟩ := bP6.three; obtain ⟨d0, d1, d2⟩ := bD6.three; obtain ⟨r0, r1, r2⟩ := bR6.three; have rf := bR6.frozen))
      have bS := Lib.hid (fun W (h : Below w6.heap.size w6 W) => And.intro (bP6.below h bP6.lt).three (bD6.below h bD6.lt).three)
      have HR := Lib.hid (fun W (h : Below w6.heap.size w6 W) => bR6.below h bR6.lt)
      have bSS := Lib.hid (fun W (h : Below w6.heap.size w6 W) v0 v1 v2 => And.intro ((((bP6.below h bP6.lt).apart (p := ⟨w.heap.size + 1 + 1, 0, none⟩) (by simp; omega) v0).apart (p := ⟨w.heap.size + 1 + 1, 1, none⟩) (by simp; omega) v1).apart (p := ⟨w.heap.size + 1 + 1, 2, none⟩) (by simp; omega) v2).three
        ((((bD6.below h bD6.lt).apart (p := ⟨w.heap.size + 1 + 1, 0, none⟩) (by simp) v0).apart (p := ⟨w.heap.size + 1 + 1, 1, none⟩) (by simp) v1).apart (p := ⟨w.heap.size + 1 + 1, 2, none⟩) (by simp) v2).three)
      have HOK := Lib.hid (HP.out.at hB6)
      have hS := And.intro (And.intro p0 (And.intro p1 p2)) (And.intro d0 (And.intro d1 d2))
      clear bP4 bD4 bR4 bP5 bD5 bR5 bP6 bD6 bR6 bZ4 ba4 hb4 hb6 hB4 hB5
      go_region_held3 (fun w' => (w'.cell? ⟨w.heap.size, 0, none⟩ = some (.int .i64 ps) ∧ w'.cell? ⟨w.heap.size, 1, none⟩ = some (.slice A vs.length c) ∧ w'.cell? ⟨w.heap.size, 2, none⟩ = some (.slice (some ad) xs.length ce)) ∧ w'.cell? ⟨w.heap.size + 1, 0, none⟩ = some (.slice DA q.length dc) ∧ w'.cell? ⟨w.heap.size + 1, 1, none⟩ = some (.int .i64 op) ∧ w'.cell? ⟨w.heap.size + 1, 2, none⟩ = some (.int .i64 v)) (first | exact hS | exact hSS _ _ _) (first
        | (go_at_call 28; refine (HC.out _ (Nodes.drewAt HOK.out.body)).mono ?_; rintro e w7 ⟨hb7, A7, c7, rfl, hc7, hA7, hN7⟩; have hb8 := ((Below.refl w6.heap.size w6).drew).trans hb7; have hS := bS.out _ hb8; have bR7 := HR.out _ hb8; obtain ⟨r0, r1, r2⟩ := bR7.three; have rf := bR7.frozen; have hSS := bSS.out _ hb8)
        | fail)
      have hB7 := hB6.trans (hb8.mono hB6.size)
      have hOK7 := HOK.out.at hb8
      have hblk : ∀ ad', A = some ad' → vs ≠ [] → ad'.block ≠ w.heap.size + 1 + 1 := by
        rintro ad' rfl hv
        obtain ⟨y, hy⟩ : ∃ y, vs[0]? = some y := by
          cases vs with
          | nil => exact absurd rfl hv
          | cons y _ => exact ⟨y, rfl⟩
        obtain ⟨ad'', e, hlt, -⟩ := HP.out.vars 0 y hy
        cases e
        omega
      have hRow := row_sets hOK7.vars hblk (.int .i64 ps) (.slice A vs.length c) (.slice A7 (dch xs a op v).length c7)
      have hNod := nodes_sets hN7 bR7 (fun z e => by cases e) (fun z e => by cases e) (.int .i64 ps) (.slice A vs.length c) (.slice A7 (dch xs a op v).length c7)
      have hB9 := ((hB7.setCell (p := ⟨w.heap.size + 1 + 1, 0, none⟩) (by simp; omega) (.int .i64 ps)).setCell (p := ⟨w.heap.size + 1 + 1, 1, none⟩) (by simp; omega) (.slice A vs.length c)).setCell (p := ⟨w.heap.size + 1 + 1, 2, none⟩) (by simp; omega) (.slice A7 (dch xs a op v).length c7)
      have hlen := HL.out
      rw [HN.out] at hlen
      have hlv := HP.out.lv
      have hcv := HP.out.cv
      have hnv := HP.out.nv
      clear hS hSS bSS bS
      go_wp2_with fail
      refine bodyPost_ret (v := .tuple #[.agg #[.int .i64 ps, .slice A vs.length c, .slice A7 (dch xs a op v).length c7], .int .i64 0]) (by simp [results, Try.results12, go_sem, r0, r1, r2]) rfl ?_
      refine ⟨hB9, .inl ⟨HE.out, A, c, A7, c7, by simp only [HN.out], ?_⟩⟩
      simp only [HN.out]
      exact ⟨hRow, hNod, hlv, by simp only; omega, hcv, hc7, hnv, hA7⟩
    · have HE := Lib.hid (show aerr xs q op v = 17 by rw [HAT.out, if_neg hm])
      have hm' : dmay x.1 op v = false := by simpa using hm
      rw [hm'] at HM
      obtain ⟨ad, hB, -, -⟩ := HP.out.body a x hxa
      simp only at hB
      subst hB
      have HG := Lib.hid (fun W (h : Below w.heap.size w W) => show W.cell? (ad.add (a * 2)) = some (.int .i64 x.1) ∧ W.cell? ⟨(ad.add (a * 2)).block, (ad.add (a * 2)).off + 1, none⟩ = some (.int .i64 x.2) from by
        obtain ⟨ad', e, -, h0, h1⟩ := (HP.out.body.below h) a x hxa
        cases e
        exact ⟨h0, h1⟩)
      clear hf hm hm' HAT hs hxa
      go_enter Try.func12, Try.ntmps12
      go_wp2_with (first
        | (go_at_call 26; rw [HW3.out]; refine HF.out.mono ?_; rintro e w4 ⟨rfl, hb4⟩; have hB4 := hB3.trans (hb4.mono hB3.size); have bR4 := HBR.out.below hb4 hlR; have bP4 := HBP.out.below hb4 hlP; have bD4 := HBD.out.below hb4 hlD; obtain ⟨p0, p1, p2⟩ := bP4.three; obtain ⟨d0, d1, d2⟩ := bD4.three; obtain ⟨g0, g1⟩ := HG.out _ hB4
           have bZ4 := Blk.new w4 45 #[.int .i64 x.1, .int .i64 x.2]
           have ba4 := (Below.refl w4.heap.size w4).alloc (Nat.le_refl _) (.cells #[.int .i64 x.1, .int .i64 x.2] 45)
           have bD5 := bD4.below ba4 bD4.lt; have bR5 := bR4.below ba4 bR4.lt; have hB5 := hB4.trans (ba4.mono hB4.size)
           obtain ⟨z0, z1⟩ := bZ4.two; obtain ⟨d0, d1, d2⟩ := bD5.three)
        | (go_at_call 27; refine (HM.out _).mono ?_; rintro e w6 ⟨rfl, hb6⟩; have bR6 := bR5.below hb6 bR5.lt; have hB6 := hB5.trans (hb6.mono hB5.size); obtain ⟨r0, r1, r2⟩ := bR6.three; have rf := bR6.frozen))
      refine bodyPost_ret (v := .tuple #[.agg #[.int .i64 0, .slice none 0 0, .slice none 0 0], .int .i64 17]) (by simp [results, Try.results12, go_sem, r0, r1, r2]) rfl ?_
      refine ⟨((hB6.setCell (p := ⟨w.heap.size + 1 + 1, 0, none⟩) (by simp; omega) _).setCell (p := ⟨w.heap.size + 1 + 1, 1, none⟩) (by simp; omega) _).setCell (p := ⟨w.heap.size + 1 + 1, 2, none⟩) (by simp; omega) _, .inr ⟨by rw [HE.out]; decide, none, 0, none, 0, by rw [HE.out], zero_ok _⟩⟩

end Go.Proofs.Ythkhonkibigdaaa.Delta
