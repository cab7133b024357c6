/-
  The laws of layer 14, walked: as many mutants as there are choices at all nodes together, and of each node just its own.
-/
import Derived.Test.YtofhgaioidfdmaaGreatSitesPkg
import Derived.Test.YtofhgaioidfdmaaGreatCatN
import Derived.Test.YtofhgaioidfdmaaGreatPathH
import Derived.Deep.RegionHeld3
import Derived.Deep.DrawnRows
set_option linter.unusedVariables false
namespace Go.Proofs.YtofhgaioidfdmaaGreat.Sites
open Go.RowKit Mem _root_.Go.Proofs.YtofhgaioidfdmaaGreat.Arena _root_.Go.Proofs.YtofhgaioidfdmaaGreat.Delta _root_.Go.Proofs.YtofhgaioidfdmaaGreat.Path _root_.Go.Proofs.YtofhgaioidfdmaaGreat.Cat _root_.Go.Proofs.YtofhgaioidfdmaaGreat.Kinds
attribute [local go_sem ↓] Go.wp_at_zero Go.wp_at_succ

theorem chs_no {l : List Nd} (hw : Whole l) {b : Int} (h : ¬ ∃ p, Leads l b p) : chs l b = [] := by
  rcases aend_cases l b with e | ⟨k, m, rfl, hs, -, h1, h2⟩
  · exact if_pos (by rw [e]; decide)
  · exact absurd (leads_ex hw (by omega) (by omega)) h
/-- How often a path is met, where there is one. -/
def cntif (ok : Bool) (p : List Int) (l : List Mt) : Nat := if ok then cnt p l else 0
theorem cnt_le (p : List Int) : ∀ l : List Mt, cnt p l ≤ l.length
  | [] => Nat.le_refl _
  | x :: l => by
    have := cnt_le p l
    rw [cnt, List.length_cons]
    split <;> omega
/-- What Of comes to, in one: a path, whether there is one; how often it is met among all mutants. -/
theorem of_one {l : List Nd} (hw : Whole l) {b : Int} {w w' : World} {e : Ending} (h : PathEnds l b w e w') : Below w.heap.size w w' ∧ ∃ (ok : Bool) (q : List Int) (A : Option Addr) (c : Nat), e = .returned (.tuple #[.slice A q.length c, .bool ok]) ∧ q.length ≤ l.length ∧ IRow w' w'.heap.size A q ∧ cntif ok q (msites l) = (chs l b).length := by
  obtain ⟨hb, ⟨q, A, c, hq, h1, h2, h3, h4⟩ | ⟨hn, A, c, h1⟩⟩ := h
  · refine ⟨hb, true, q, A, c, h1, hq.rng.2, h4, ?_⟩
    obtain ⟨k, rfl⟩ := Int.eq_ofNat_of_zero_le hq.2.1
    have hk : k < l.length := by have := hq.rng.1; omega
    show cnt q (msites l) = _
    rw [← ppath_leads hq]
    exact cnt_sites hw hk
  · refine ⟨hb, false, [], A, c, h1, by simp, fun i x h => by simp at h, ?_⟩
    rw [chs_no hw hn]
    rfl

set_option maxRecDepth 100000 in
set_option maxHeartbeats 4000000 in
theorem sitesCount_of (C : SPkg) (K : Works) (p : Prg) (at_ : Int) (w : World) (hp : p.In w) :
    Calls Tryz.prog 9 #[.agg #[.int .i64 p.ps, .slice p.A p.vs.length p.c, .slice p.B p.xs.length p.e], .int .i64 at_] w fun e w' => e = .returned (.bool true) ∧ Below w.heap.size w w' := by
  have hB0 : Below w.heap.size w (w.alloc (.cells #[.int .i64 p.ps, .slice p.A p.vs.length p.c, .slice p.B p.xs.length p.e] 25)) := (Below.refl _ _).alloc (Nat.le_refl _) _
  have bX := Blk.new w 25 #[.int .i64 p.ps, .slice p.A p.vs.length p.c, .slice p.B p.xs.length p.e]
  have hi := hp.at hB0
  obtain ⟨wQ, hwQ⟩ : ∃ wQ, w.alloc (.cells #[.int .i64 p.ps, .slice p.A p.vs.length p.c, .slice p.B p.xs.length p.e] 25) = wQ := ⟨_, rfl⟩
  rw [hwQ] at hB0 bX hi
  have hgl := bX.lt
  have HBX := Lib.hid (fun W (h : Below wQ.heap.size wQ W) => (bX.below h hgl).three)
  have HP := Lib.hid hi
  have HWQ := Lib.hid hwQ
  have HW := Lib.hid K
  have HF := Lib.hid (fun W => ref_Few_any p W)
  have HFP := Lib.hid (fun W (h : p.In W) => few_prg (p := p) (w := W) h)
  have HA := Lib.hid (fun W h => C.all p W h)
  have HCK := Lib.hid (fun W (h : p.Ok W) => Kinds.PCheck_any p W h)
  have HPW := Lib.hid (fun h : pcheck p.ps p.vs p.xs = 0 => (pcheck_whole h).1)
  clear hp bX hwQ hi
  generalize pcheck p.ps p.vs p.xs = e9 at *
  generalize hf : (decide (p.xs.length ≤ 60) && decide (p.vs.length ≤ 20)) = f at *
  cases f with
  | false =>
    go_enter Tryz.func9, Tryz.ntmps9
    go_wp2_with (first
      | (go_at_call 10; rw [HWQ.out]; refine (HW.out _).mono ?_; rintro e w2 ⟨rfl, hb2⟩; obtain ⟨b0, b1, b2⟩ := HBX.out _ hb2)
      | (go_at_call 11; refine (HF.out _).mono ?_; rintro e w3 ⟨rfl, hb⟩; have hb3 := hb2.trans (hb.mono hb2.size))
      | fail)
    go_ret
    exact ⟨rfl, hB0.trans (hb3.mono hB0.size)⟩
  | true =>
  have hl60 := (HFP.out _ HP.out rfl).2
  have HOK := Lib.hid (fun W (h : Below wQ.heap.size wQ W) => (HFP.out _ (HP.out.at h) rfl).1)
  by_cases h9 : e9 = 0
  case neg =>
    have HA2 := Lib.hid (fun W h => (HA.out W h).mono (fun e w' q => q.no h9))
    have e0 : (e9 == 0) = false := by simpa using h9
    have e3 : (e9 == e9) = true := by simp
    clear HA h9 hf
    go_enter Tryz.func9, Tryz.ntmps9
    go_wp2_with (first
      | (go_at_call 10; rw [HWQ.out]; refine (HW.out _).mono ?_; rintro e w2 ⟨rfl, hb2⟩; obtain ⟨b0, b1, b2⟩ := HBX.out _ hb2)
      | (go_at_call 11; refine (HF.out _).mono ?_; rintro e w3 ⟨rfl, hb⟩; have hb3 := hb2.trans (hb.mono hb2.size); obtain ⟨b0, b1, b2⟩ := HBX.out _ hb3)
      | (go_at_call 12; refine (HA2.out _ (HOK.out _ hb3)).mono ?_; rintro e w4 ⟨hb, A4, c4, rfl⟩; have hb4 := hb3.trans (hb.mono hb3.size); obtain ⟨b0, b1, b2⟩ := HBX.out _ hb4)
      | (go_at_call 19; refine (HCK.out _ (HOK.out _ hb4)).mono ?_; rintro e w5 ⟨rfl, hb⟩; have hb5 := hb4.trans (hb.mono hb4.size))
      | fail)
    go_ret
    exact ⟨ret_yes (by simp), hB0.trans (hb5.mono hB0.size)⟩
  subst h9
  have hw := HPW.out rfl
  have HA2 := Lib.hid (fun W h => (HA.out W h).mono (fun e w' q => q.ok rfl))
  have HCH := Lib.hid (fun (a : Int) W (h : Below wQ.heap.size wQ W) => Cat.Choices_any p.B p.e p.xs a W (HOK.out W h).body (by omega))
  have HOF := Lib.hid (fun W (h : Below wQ.heap.size wQ W) => (Path.Of_any p.B p.e p.xs at_ W (HOK.out W h).body (by omega)).mono (fun e w' q => of_one hw q))
  have HPC := Lib.hid (fun A c q A' c' q' W h h' hq hq' => Path.Compare_any A c q A' c' q' W h h' hq hq')
  have HMU := Lib.hid (fun k => mupto_succ p.xs k)
  have HML := Lib.hid (fun k => mupto_len p.xs k)
  have HMA := Lib.hid (fun k => mat_len p.xs k)
  have HMS : Hid (msites p.xs = mupto p.xs p.xs.length) := Lib.hid rfl
  have HC5 := Lib.hid (fun a => (chs_row p.xs a).2.1)
  clear HA HPW hf
  unfold ChEnds at HCH
  go_enter Tryz.func9, Tryz.ntmps9
  go_wp2_with (first
    | (go_at_call 10; rw [HWQ.out]; refine (HW.out _).mono ?_; rintro e w2 ⟨rfl, hb2⟩; obtain ⟨b0, b1, b2⟩ := HBX.out _ hb2)
    | (go_at_call 11; refine (HF.out _).mono ?_; rintro e w3 ⟨rfl, hb⟩; have hb3 := hb2.trans (hb.mono hb2.size); obtain ⟨b0, b1, b2⟩ := HBX.out _ hb3)
    | (go_at_call 12; refine (HA2.out _ (HOK.out _ hb3)).mono ?_; rintro e w4 ⟨hb, A4, c4, rfl, -, -, hm4⟩; have hb4 := hb3.trans (hb.mono hb3.size))
    | fail)
  have HM4 := Lib.hid hm4
  clear hm4 hb b0 b1 b2
  go_loopw [9, 10] (fun n i wr => ∃ j : Nat, j ≤ p.xs.length ∧ i = .int .i64 j ∧ n = .int .i64 ((mupto p.xs j).length : Nat) ∧ Below w4.heap.size w4 wr) (fun _ i _ => p.xs.length - (intOf i).toNat)
  case atStart => exact ⟨0, by omega, rfl, rfl, Below.refl _ _⟩
  case round =>
    obtain ⟨j, hj, rfl, rfl, hbw⟩ := hrel
    have hbx := hb4.trans (hbw.mono hb4.size)
    obtain ⟨b0, b1, b2⟩ := HBX.out _ hbx
    by_cases hlt : j < p.xs.length
    · have i1 : (j : Int) < (p.xs.length : Int) := by omega
      have hn1 : (mupto p.xs (j + 1)).length = (mupto p.xs j).length + (chs p.xs j).length := by rw [HMU.out, List.length_append, HMA.out]
      have hn2 := HML.out j
      have hn3 := HC5.out j
      have i5 : IntKind.i64.wrap (((mupto p.xs j).length : Int) + ((chs p.xs j).length : Int)) = ((mupto p.xs j).length : Int) + ((chs p.xs j).length : Int) := IntWalk.i64_in _ (by omega)
      go_wp2_with (first
        | (go_at_call 27; refine (HCH.out _ _ hbx).mono ?_; rintro e w5 ⟨hb5, A5, c5, rfl, -, -, -⟩; have hbw5 := hbw.trans (hb5.mono hbw.size))
        | fail)
      go_roundw
      case rel => exact ⟨j + 1, by omega, by go_num, by rw [hn1]; go_num, hbw5⟩
      case measure => simp [intOf]; omega
    · obtain rfl : j = p.xs.length := by omega
      have i1 : ¬ (p.xs.length : Int) < (p.xs.length : Int) := by omega
      rw [← HMS.out]
      have hM := HML.out p.xs.length
      rw [← HMS.out] at hM
      go_wp2_with (first
        | (go_at_call 28; refine (HOF.out _ hbx).mono ?_; rintro e w5 ⟨hb5, ok, q, A5, c5, rfl, hq, hr5, hcnt⟩; have hbw5 := hbw.trans (hb5.mono hbw.size))
        | fail)
      have HR5 := Lib.hid hr5
      have HM5 := Lib.hid (HM4.out.at hbw5)
      have HCNT := Lib.hid hcnt
      have HB5 := Lib.hid (hb4.trans (hbw5.mono hb4.size))
      have HQ := Lib.hid hq
      clear hr5 hcnt b0 b1 b2 hbx hbw hbw5 hb5 hq
      generalize msites p.xs = M at *
      go_loopw [13, 14] (fun k i wr => ∃ j : Nat, j ≤ M.length ∧ i = .int .i64 j ∧ k = .int .i64 ((cntif ok q (M.take j) : Nat)) ∧ Below w5.heap.size w5 wr) (fun _ i _ => M.length - (intOf i).toNat)
      case atStart => exact ⟨0, by omega, rfl, by rw [List.take_zero]; cases ok <;> rfl, Below.refl _ _⟩
      case round =>
        obtain ⟨j, hj, rfl, rfl, hbw⟩ := hrel
        by_cases hlt : j < M.length
        · have i1 : (j : Int) < (M.length : Int) := by omega
          have i2 : (0 : Int) ≤ (j : Int) := by omega
          obtain ⟨m, hm⟩ : ∃ m, M[j]? = some m := ⟨_, List.getElem?_eq_getElem hlt⟩
          cases ok
          · go_wp2_with fail
            go_roundw
            case rel => exact ⟨j + 1, by omega, by go_num, rfl, hbw⟩
            case measure => simp [intOf]; omega
          · obtain ⟨ad, P, cp, rfl, G⟩ := (HM5.out.at hbw).get hm
            obtain ⟨okm, k1, -, -⟩ := G _ (Below.refl _ _)
            have hst := cnt_snoc (p := q) hm
            have hcl := cnt_le q (M.take j)
            rw [List.length_take] at hcl
            have hPC := Lib.hid (HPC.out P cp m.1 A5 c5 q wr okm.path (HR5.out.at hbw) okm.len (by have := HQ.out; omega))
            clear G okm hm
            show _
            by_cases hz : cmp m.1 q = 0
            · rw [if_pos hz] at hst
              rw [hz] at hPC
              have i5 : IntKind.i64.wrap ((cntif true q (M.take j) : Int) + 1) = (cntif true q (M.take j) : Int) + 1 := IntWalk.i64_in _ (by show _ ∧ _; unfold cntif; rw [if_pos rfl]; omega)
              go_wp2_with (first
                | (go_at_call 29; refine hPC.out.mono ?_; rintro e w8 ⟨rfl, hb8⟩; have hb9 := hbw.trans (hb8.mono hbw.size))
                | fail)
              go_roundw
              case rel => exact ⟨j + 1, by omega, by go_num, by unfold cntif; rw [if_pos rfl, if_pos rfl, hst]; go_num, hb9⟩
              case measure => simp [intOf]; omega
            · rw [if_neg hz] at hst
              generalize cmp m.1 q = r at *
              have e0 : (r == 0) = false := by simpa using hz
              go_wp2_with (first
                | (go_at_call 29; refine hPC.out.mono ?_; rintro e w8 ⟨rfl, hb8⟩; have hb9 := hbw.trans (hb8.mono hbw.size))
                | fail)
              go_roundw
              case rel => exact ⟨j + 1, by omega, by go_num, by unfold cntif; rw [if_pos rfl, if_pos rfl, hst], hb9⟩
              case measure => simp [intOf]; omega
        · obtain rfl : j = M.length := by omega
          have i1 : ¬ (M.length : Int) < (M.length : Int) := by omega
          rw [List.take_length, HCNT.out]
          have hbx := HB5.out.trans (hbw.mono HB5.out.size)
          obtain ⟨b0, b1, b2⟩ := HBX.out _ hbx
          go_wp2_with (first
            | (go_at_call 27; refine (HCH.out _ _ hbx).mono ?_; rintro e w8 ⟨hb8, A8, c8, rfl, -, -, -⟩; have hbx8 := hbx.trans (hb8.mono hbx.size))
            | fail)
          go_ret
          exact ⟨ret_yes (by simp), hB0.trans (hbx8.mono hB0.size)⟩

end Go.Proofs.YtofhgaioidfdmaaGreat.Sites
