/-
  The reference of all mutants, walked: All, node by node, two loops.
-/
import Derived.Test.YtofhgaioidfdmaaGreatSitesRow
import Derived.Test.YtofhgaioidfdmaaGreatPathG
import Derived.Test.YtofhgaioidfdmaaGreatKindsG
import Derived.Test.YtofhgaioidfdmaaGreatCatG
import Derived.Deep.RegionHeld3
import Derived.Deep.DrawnRows
set_option linter.unusedVariables false
namespace Go.Proofs.YtofhgaioidfdmaaGreat.Sites
open Go.RowKit Mem _root_.Go.Proofs.YtofhgaioidfdmaaGreat.Arena _root_.Go.Proofs.YtofhgaioidfdmaaGreat.Delta _root_.Go.Proofs.YtofhgaioidfdmaaGreat.Path _root_.Go.Proofs.YtofhgaioidfdmaaGreat.Cat _root_.Go.Proofs.YtofhgaioidfdmaaGreat.Kinds
attribute [local go_sem ↓] Go.wp_at_zero Go.wp_at_succ

/-- What All comes to. -/
def MAll (e9 : Int) (M : List Mt) (w : World) (e : Ending) (w' : World) : Prop :=
  Below w.heap.size w w' ∧ ((e9 = 0 ∧ ∃ A c, e = .returned (.tuple #[.slice A M.length c, .int .i64 0]) ∧ M.length ≤ c ∧ (A = none → c = 0) ∧ MRow w' A M) ∨
    (e9 ≠ 0 ∧ ∃ A c, e = .returned (.tuple #[.slice A 0 c, .int .i64 e9])))
theorem pcheck_whole {ps : Int} {vs : List Int} {xs : List Nd} (h : pcheck ps vs xs = 0) : Whole xs ∧ xs.length ≤ 200 := by
  obtain ⟨h1, -⟩ := pcheck_zero h
  obtain ⟨h2, h3⟩ := acheck_zero h1
  have h4 := aend_some (l := xs) (a := 0) (n := xs.length) (by rw [List.drop_zero]; exact h3)
  refine ⟨?_, h2⟩
  unfold Whole
  rw [show (0 : Int) = ((0 : Nat) : Int) from rfl, h4]
  omega
theorem mat_step {xs : List Nd} {a j : Nat} {op n : Int} (h : (chs xs a)[j]? = some (op, n)) : (mat xs a).take (j + 1) = (mat xs a).take j ++ [(ppath xs a, op, n)] :=
  take_snoc _ j _ (by unfold mat; rw [List.getElem?_map, h]; rfl)

set_option maxRecDepth 100000 in
set_option maxHeartbeats 4000000 in
theorem ref_All_any (p : Prg) (w : World) (hp : p.Ok w) : Calls Tryz.prog 13 #[.agg #[.int .i64 p.ps, .slice p.A p.vs.length p.c, .slice p.B p.xs.length p.e]] w (MAll (pcheck p.ps p.vs p.xs) (msites p.xs) w) := by
  obtain ⟨ps, A, c, vs, B, ce, xs⟩ := p
  simp only at *
  have hB1 : Below w.heap.size w (w.alloc (.cells #[.int .i64 ps, .slice A vs.length c, .slice B xs.length ce] 25)) := (Below.refl _ _).alloc (Nat.le_refl _) _
  have bP := Blk.new w 25 #[.int .i64 ps, .slice A vs.length c, .slice B xs.length ce]
  obtain ⟨w1, hw1⟩ : ∃ w1, w.alloc (.cells #[.int .i64 ps, .slice A vs.length c, .slice B xs.length ce] 25) = w1 := ⟨_, rfl⟩
  rw [hw1] at hB1 bP
  have HW1 := Lib.hid hw1
  have hp1 := hp.at hB1
  have HC := Lib.hid (ref_Check_any ⟨ps, A, c, vs, B, ce, xs⟩ w1 hp1)
  have HW : Hid (pcheck ps vs xs = 0 → Whole xs ∧ xs.length ≤ 200) := Lib.hid pcheck_whole
  have HS1 := Lib.hid (fun W (h : Below w1.heap.size w1 W) => (bP.below h bP.lt).three)
  obtain ⟨p0, p1, p2⟩ := bP.three
  simp only at HC
  generalize pcheck ps vs xs = e9 at *
  have HP1 := Lib.hid hp1
  have HB1 := Lib.hid hB1
  clear hw1 hp1 hp bP hB1
  by_cases h9 : e9 = 0
  · subst h9
    obtain ⟨hw, hl⟩ := HW.out rfl
    clear HW
    go_enter Tryz.func13, Tryz.ntmps13
    go_wp2_with (first
      | (go_at_call 31; rw [HW1.out]; refine HC.out.mono ?_; rintro e w2 ⟨rfl, hb2⟩; obtain ⟨p0, p1, p2⟩ := HS1.out _ hb2)
      | fail)
    have hp2 := HP1.out.at hb2
    have hB2 := HB1.out.trans (hb2.mono HB1.out.size)
    have HS := Lib.hid (fun W (h : Below w2.heap.size w2 W) => HS1.out _ (hb2.trans (h.mono hb2.size)))
    have HOF := Lib.hid (fun (a : Nat) (ha : a < xs.length) W (h : Below w2.heap.size w2 W) => (Path.ref_Of_anyF B ce xs hp2.lx a W (hp2.at h).body).mono fun e w' q => q.ok (leads_ppath hw ha))
    have HCF := Lib.hid (fun (a : Nat) W (h : Below w2.heap.size w2 W) => ref_Choices_anyF B ce xs a W (hp2.at h).body hp2.lx)
    have HPL := Lib.hid (fun (a : Nat) (ha : a < xs.length) => (leads_ppath hw ha).rng.2)
    have HML := Lib.hid (mupto_len xs)
    have HCL := Lib.hid (fun a : Nat => (chs_row xs a).2.1)
    have HZ := Lib.hid hB2
    clear p0 p1 p2 hB2 hp2 hb2
    go_loopw [5, 6] (fun o i wr => ∃ a : Nat, a ≤ xs.length ∧ i = .int .i64 a ∧ MOwn wr w2.heap.size o (mupto xs a) ∧ Below w2.heap.size w2 wr) (fun _ i _ => xs.length - (intOf i).toNat)
    case atStart => exact ⟨0, by omega, rfl, MOwn.nil _ _, Below.refl _ _⟩
    case round =>
      obtain ⟨a, ha, rfl, hO, hB⟩ := hrel
      obtain ⟨p0, p1, p2⟩ := HS.out _ hB
      by_cases hlt : a < xs.length
      · have i1 : (a : Int) < (xs.length : Int) := by omega
        have HO := Lib.hid hO
        clear hO
        go_wp2_with (first
          | (go_at_call 32; refine (HOF.out a hlt _ hB).mono ?_; rintro e w3 ⟨hb3, PA, pc, rfl, hpc, hPA, hpr, hpf⟩; have hB3 := hB.trans (hb3.mono hB.size); obtain ⟨p0, p1, p2⟩ := HS.out _ hB3)
          | (go_at_call 33; refine (HCF.out a _ hB3).mono ?_; rintro e w4 ⟨hb4, CA, cc, rfl, hcc, hCA, hcr, hcf⟩; have hB4 := hB3.trans (hb4.mono hB3.size); obtain ⟨p0, p1, p2⟩ := HS.out _ hB4)
          | fail)
        have hJ0 := HO.out.below hb3
        have hJ1 := hJ0.below hb4
        have HJ := Lib.hid (MJ.mk (pc := pc) hJ1 hB4 (hpr.at hb4) hcr (fun _ ad e q => by have := (HO.out.lt _ q).2; have := hpf ad e; omega) (fun _ ad e q => by have := (hJ0.lt _ q).2; have := hcf ad e; omega))
        have hpl := HPL.out a hlt
        have hm9 := HML.out a
        have hc9 := HCL.out a
        clear hb3 hb4 hB3 hB4 hpr hcr hJ0 hJ1 hpf hcf p0 p1 p2 hB
        go_loopw [5, 10] (fun o i wr => ∃ j : Nat, j ≤ (chs xs a).length ∧ i = .int .i64 j ∧ MJ w2 o (mupto xs a ++ (mat xs a).take j) PA pc (ppath xs a) CA (chs xs a) wr) (fun _ i _ => (chs xs a).length - (intOf i).toNat)
        case atStart => exact ⟨0, by omega, rfl, by rw [List.take_zero, List.append_nil]; exact HJ.out⟩
        case round =>
          obtain ⟨j, hj, rfl, hJ⟩ := hrel
          by_cases hlt2 : j < (chs xs a).length
          · obtain ⟨⟨op, n⟩, hbn⟩ : ∃ b, (chs xs a)[j]? = some b := ⟨_, List.getElem?_eq_getElem hlt2⟩
            have hst : mupto xs a ++ (mat xs a).take (j + 1) = (mupto xs a ++ (mat xs a).take j) ++ [(ppath xs a, op, n)] := by rw [mat_step hbn, List.append_assoc]
            have hle : (mupto xs a ++ (mat xs a).take j).length + 1 ≤ 100000000 := by
              rw [List.length_append, List.length_take]; omega
            have HST := Lib.hid hst
            obtain ⟨ad, P0, c0, rfl, hadb, -, -, k1, k2⟩ := hJ.row j _ hbn
            have HK := Lib.hid (fun (X : World) (o : Value) (L : List Mt) (h : MJ w2 o L PA pc (ppath xs a) (some ad) (chs xs a) X) => show X.cell? ⟨(ad.add (j * 3)).block, (ad.add (j * 3)).off + 1, none⟩ = some (.int .i64 op) ∧ X.cell? ⟨(ad.add (j * 3)).block, (ad.add (j * 3)).off + 2, none⟩ = some (.int .i64 n) from by
              obtain ⟨ad', P', c', e, -, -, -, q1, q2⟩ := h.row j _ hbn
              cases e
              exact ⟨q1, q2⟩)
            generalize mupto xs a ++ (mat xs a).take j = L at *
            have i3 : (j : Int) < ((chs xs a).length : Int) := by omega
            have i4 : (0 : Int) ≤ (j : Int) := by omega
            have HJ2 := Lib.hid hJ
            have hS := And.intro k1 k2
            have hS2 := fun o : Obj => HK.out _ _ _ (hJ.at ((Below.refl _ _).alloc (Nat.le_refl _) o))
            have hbase := hJ.below.size
            have hpL : (ppath xs a).length ≤ 1000000 := by omega
            clear hJ hst hbn k1 k2 hlt2
            go_wp2_with fail
            go_region_held3 (fun w' => w'.cell? ⟨(ad.add (j * 3)).block, (ad.add (j * 3)).off + 1, none⟩ = some (.int .i64 op) ∧ w'.cell? ⟨(ad.add (j * 3)).block, (ad.add (j * 3)).off + 2, none⟩ = some (.int .i64 n)) (first | exact hS | exact hS2 _ | exact hS7) ((refine step_append_mt (by rfl) _ _ (by rfl) w2.heap.size (Nat.le_trans hbase (by simp)) _ L (by rfl) (HJ2.out.own.below (((Below.refl _ _).alloc (Nat.le_refl _) _).drew)) wr.heap.size (PA, pc) (ppath xs a, op, n) (by rfl) (Blk.new wr 34 _) hle ⟨HJ2.out.path.at (((Below.refl _ _).alloc (Nat.le_refl _) _).drew), hpL, hpc, hPA⟩ HJ2.out.farp ?_; intro v7 w7 hown hgr hat; have hJ7 := (HJ2.out.at (((Below.refl _ _).alloc (Nat.le_refl _) _).drew)).step hown hgr hat; have hS7 := HK.out _ _ _ hJ7))
            go_wp2_with fail
            go_roundw
            case rel => exact ⟨j + 1, by omega, by go_num, by rw [HST.out]; exact hJ7⟩
            case measure => simp [intOf]; omega
          · obtain rfl : j = (chs xs a).length := by omega
            have i3 : ¬ ((chs xs a).length : Int) < ((chs xs a).length : Int) := by omega
            rw [show (mat xs a).take (chs xs a).length = mat xs a by rw [← mat_len, List.take_length], ← mupto_succ] at hJ
            have HJ2 := Lib.hid hJ
            clear hJ
            go_wp2_with fail
            go_roundw
            case rel => exact ⟨a + 1, by omega, by go_num, HJ2.out.own, HJ2.out.below⟩
            case measure => simp [intOf]; omega
      · obtain rfl : a = xs.length := by omega
        have i1 : ¬ (xs.length : Int) < (xs.length : Int) := by omega
        obtain ⟨A3, c3, rfl, hc3, hA3, hR3⟩ := hO.mrow
        have HR3 := Lib.hid hR3
        clear hO hR3
        go_wp2_with fail
        go_ret2
        exact ⟨HZ.out.trans (hB.mono HZ.out.size), .inl ⟨rfl, A3, c3, rfl, hc3, hA3, HR3.out⟩⟩
  · have e0 : (e9 == 0) = false := by simpa using h9
    clear HW
    have H9 := Lib.hid h9
    clear h9
    go_enter Tryz.func13, Tryz.ntmps13
    go_wp2_with (first
      | (go_at_call 31; rw [HW1.out]; refine HC.out.mono ?_; rintro e w2 ⟨rfl, hb2⟩; obtain ⟨p0, p1, p2⟩ := HS1.out _ hb2)
      | fail)
    go_ret2
    exact ⟨HB1.out.trans (hb2.mono HB1.out.size), .inr ⟨H9.out, none, 0, rfl⟩⟩

end Go.Proofs.YtofhgaioidfdmaaGreat.Sites
