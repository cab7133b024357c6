/-
  Package container, walked: what is opened, whatever the bytes are; the three contracts of the package.
-/
import Derived.Test.YtfjdbbhaigjbmaaGreatContOpens
import Derived.Test.YtfjdbbhaigjbmaaGreatContLaws
namespace Go.Proofs.YtfjdbbhaigjbmaaGreat.Cont
open Go.RowKit Leb Mem _root_.Go.Proofs.YtfjdbbhaigjbmaaGreat.Frame

set_option maxRecDepth 100000 in
set_option maxHeartbeats 1000000 in
theorem open_any (s : ByteArray) (hs : s.size ≤ 1073741824) (w : World) :
    Calls Tryz.prog 29 #[.string s] w (OpensOr s.data.toList w) := by
  have hlen := len_of s
  by_cases c1 : 1048576 < s.size
  · have HE := Lib.hid (open_large (l := s.data.toList) (by omega))
    have n1 : decide ((s.size : Int) ≤ 1048576) = false := decide_eq_false (by omega)
    clear hlen
    go_enter Tryz.func29, Tryz.ntmps29
    go_wp2_with (go_at_call 32; with_reducible refine (must_false 4 _).mono ?_; rintro e w2 ⟨rfl, rfl⟩)
    exact ⟨rfl, OpensOr.no HE.out (by decide) (Below.refl _ _)⟩
  have k1 : ¬ 1048576 < s.data.toList.length := by omega
  have n1 : decide ((s.size : Int) ≤ 1048576) = true := decide_eq_true (by omega)
  rcases hm : marks s.data.toList with _ | _
  · have hd : s.data.toList.length < 15 ∨ s.data.toList.take 7 ≠ magic ∨ s.data.toList.drop (s.data.toList.length - 4) ≠ theEnd := by
      unfold marks at hm
      simp only [Bool.and_eq_false_iff, decide_eq_false_iff_not] at hm
      rcases hm with h | h | h
      · exact .inl (by omega)
      · exact .inr (.inl h)
      · exact .inr (.inr h)
    have HE := Lib.hid (open_magic k1 hd)
    have HM := Lib.hid (fun W => p_marked_any s hs W)
    rw [hm] at HM
    clear hlen k1 hd hm
    go_enter Tryz.func29, Tryz.ntmps29
    go_wp2_with (first
      | (go_at_call 32; with_reducible refine (must_true 4 _).mono ?_; rintro e w2 ⟨rfl, rfl⟩)
      | (go_at_call 43; with_reducible refine (HM.out _).mono ?_; rintro e w2 ⟨rfl, rfl⟩)
      | (go_at_call 32; with_reducible refine (must_false 7 _).mono ?_; rintro e w2 ⟨rfl, rfl⟩))
    exact ⟨rfl, OpensOr.no HE.out (by decide) (Below.refl _ _)⟩
  have k2 : ¬ (s.data.toList.length < 15 ∨ s.data.toList.take 7 ≠ magic ∨ s.data.toList.drop (s.data.toList.length - 4) ≠ theEnd) := by
    have hm' := hm
    simp only [marks, Bool.and_eq_true, decide_eq_true_iff] at hm'
    rintro (h | h | h)
    · omega
    · exact h hm'.2.1
    · exact h hm'.2.2
  have h15 : 15 ≤ s.size := by
    have hm' := hm
    simp only [marks, Bool.and_eq_true, decide_eq_true_iff] at hm'
    omega
  obtain ⟨n, hn⟩ : ∃ n, num ((s.data.toList.drop (s.data.toList.length - 8)).take 4) = n := ⟨_, rfl⟩
  by_cases c5 : n < 7 ∨ s.data.toList.length - 8 < n
  · have HE := Lib.hid (open_place k1 k2 hn c5)
    have m8 : IntKind.i64.wrap ((s.size : Int) - 8) = (s.size : Int) - 8 := IntWalk.i64_in _ (by omega)
    have j1 : (0 : Int) ≤ (s.size : Int) - 8 := by omega
    have j2 : (s.size : Int) - 8 ≤ (s.size : Int) := by omega
    have j4 : ((s.size : Int) - 8).toNat = s.size - 8 := by omega
    obtain ⟨N8, hN8⟩ : ∃ U, s.extract (s.size - 8) s.size = U := ⟨_, rfl⟩
    have hx8 := extract_str s (s.size - 8) s.size
    rw [hN8, List.take_of_length_le (by rw [List.length_drop, len_of]; omega)] at hx8
    have hN8s : N8.size = 8 := by rw [← hN8, ByteArray.size_extract]; omega
    have HNum := Lib.hid (fun W => p_number_any N8 (by omega) (by omega) W)
    rw [show N8.data.toList = s.data.toList.drop (s.data.toList.length - 8) by rw [hx8, str_list, hlen], hn] at HNum
    have HM := Lib.hid (fun W => p_marked_any s hs W)
    rw [hm] at HM
    rw [hlen] at c5
    clear hx8 hN8s hm k1 k2 hn hlen
    by_cases c6 : n < 7
    · have n7 : decide ((7 : Int) ≤ (n : Int)) = false := decide_eq_false (by omega)
      have n7' : ¬ (7 : Int) ≤ (n : Int) := by omega
      clear c5
      go_enter Tryz.func29, Tryz.ntmps29
      go_wp2_with (first
        | (go_at_call 32; with_reducible refine (must_true 4 _).mono ?_; rintro e w2 ⟨rfl, rfl⟩)
        | (go_at_call 43; with_reducible refine (HM.out _).mono ?_; rintro e w2 ⟨rfl, rfl⟩)
        | (go_at_call 32; with_reducible refine (must_true 7 _).mono ?_; rintro e w2 ⟨rfl, rfl⟩)
        | (go_at_call 44; with_reducible refine (HNum.out _).mono ?_; rintro e w1 ⟨rfl, hb1⟩)
        | (go_at_call 32; with_reducible refine (must_false 9 _).mono ?_; rintro e w2 ⟨rfl, rfl⟩))
      exact ⟨rfl, OpensOr.no HE.out (by decide) hb1⟩
    · have n7 : (7 : Int) ≤ (n : Int) := by omega
      have n8 : decide ((n : Int) ≤ (s.size : Int) - 8) = false := decide_eq_false (by omega)
      clear c5
      go_enter Tryz.func29, Tryz.ntmps29
      go_wp2_with (first
        | (go_at_call 32; with_reducible refine (must_true 4 _).mono ?_; rintro e w2 ⟨rfl, rfl⟩)
        | (go_at_call 43; with_reducible refine (HM.out _).mono ?_; rintro e w2 ⟨rfl, rfl⟩)
        | (go_at_call 32; with_reducible refine (must_true 7 _).mono ?_; rintro e w2 ⟨rfl, rfl⟩)
        | (go_at_call 44; with_reducible refine (HNum.out _).mono ?_; rintro e w1 ⟨rfl, hb1⟩)
        | (go_at_call 32; with_reducible refine (must_false 9 _).mono ?_; rintro e w2 ⟨rfl, rfl⟩))
      exact ⟨rfl, OpensOr.no HE.out (by decide) hb1⟩
  exact open_late s (by omega) hm n hn (by omega) (by omega) w

/-! ### The door -/
set_option maxRecDepth 100000 in
theorem ocatch_gone (p : Addr) (x c : Int) (w : World) (hc : w.cell? p = some (.int .i64 x)) (hz : w.frozen? p = false) :
    CallsD Tryz.prog 28 #[.pointer (some p)] (.panicking (gone c)) w fun e u' w' =>
      e = .returned (.tuple #[]) ∧ u' = .panicking [{ v := .iface 53 (.int .i64 c), recovered := true }] ∧ w' = w.setCell p (.int .i64 c) := by
  refine callsD_of_wpS Tryz.func28 rfl fun c₀ cs hu => ?_
  unfold gone at hu
  apply wpS_region
  simp [wpOpsS, go_sem, recoverD, hu, Tryz.ntmps28]
  refine (told_wrong c w).mono ?_
  rintro e w1 ⟨rfl, rfl⟩
  simp [go_sem, hc, hz, bodyPostS, results, Tryz.results28, Oper.upon]

set_option maxRecDepth 100000 in
theorem ocatch_idle (p : Addr) (x : Int) (w : World) (hc : w.cell? p = some (.int .i64 x)) (hz : w.frozen? p = false) :
    CallsD Tryz.prog 28 #[.pointer (some p)] .returning w fun e u' w' => e = .returned (.tuple #[]) ∧ u' = .returning ∧ w' = w.setCell p (.int .i64 0) := by
  refine callsD_of_wpS Tryz.func28 rfl fun c₀ cs hu => ?_
  apply wpS_region
  simp [wpOpsS, go_sem, recoverD, hu, Tryz.ntmps28]
  refine (told_nil w).mono ?_
  rintro e w1 ⟨rfl, rfl⟩
  cases c₀
  simp_all [go_sem, bodyPostS, results, Tryz.results28, Oper.upon]

/-- A cell of another block is set: the sections stay. -/
theorem sects_set {W : World} {B : Nat} {A : Option Addr} {ys : List Sect} {D : Nat} {t : TypeId} {x : Value} (v : Value) (hD : Blk W D t #[x]) (h : Sects W B A ys) : Sects (W.setCell ⟨D, 0, none⟩ v) B A ys := by
  intro i y hy
  obtain ⟨ad, e, h1, h2, h3, h4⟩ := h i y hy
  have hn : ¬ (ad.add (i * 2)).block = D := by
    intro hq
    have hz := hD.cell ((ad.add (i * 2)).off + 1)
    rw [hq] at h4
    rw [h4] at hz
    simp at hz
  refine ⟨ad, e, h1, h2, ?_, ?_⟩
  · rw [World.cell?_of_block (Below.heap_setCell _ _ _ _ (by exact hn))]
    exact h3
  · rw [World.cell?_of_block (a := ⟨(ad.add (i * 2)).block, (ad.add (i * 2)).off + 1, none⟩) (Below.heap_setCell _ _ _ _ (by exact hn))]
    exact h4

theorem OpensOr.to_ok {l : List UInt8} {w w' : World} {e : Ending} {r : List Sec} (h : OpensOr l w e w') (hl : openC l = (r, 0)) :
    Below w.heap.size w w' ∧ ∃ (A : Option Addr) (cap : Nat) (ys : List Sect), r = secs ys ∧ e = .returned (.slice A ys.length cap) ∧ Sects w' w'.heap.size A ys ∧ (A = none → ys = []) := by
  obtain ⟨hb, h1, -⟩ := h
  rw [hl] at h1
  exact ⟨hb, h1 rfl⟩
theorem OpensOr.to_no {l : List UInt8} {w w' : World} {e : Ending} {r : List Sec} {c : Int} (h : OpensOr l w e w') (hl : openC l = (r, c)) (hc : c ≠ 0) : e = .panicked (gone c) ∧ Below w.heap.size w w' := by
  obtain ⟨hb, -, h1⟩ := h
  rw [hl] at h1
  exact ⟨h1 hc, hb⟩
set_option maxRecDepth 100000 in
set_option maxHeartbeats 2000000 in
theorem Open_any (s : ByteArray) (hs : s.size ≤ 1073741824) (w : World) :
    Calls Tryz.prog 11 #[.string s] w (OpenEnds s.data.toList w) := by
  have hmf : ∀ (fn : Fn) (first cap : Array Value) (w : World), (Instr.makeFunc fn first cap).run Tryz.prog w = .ok (.func fn first cap) w := fun _ _ _ _ => rfl
  have hB0 : Below w.heap.size w (w.alloc (.cells #[.int .i64 0] 25)) := (Below.refl _ _).alloc (Nat.le_refl _) _
  have HS := Lib.hid (open_any s hs (w.alloc (.cells #[.int .i64 0] 25)))
  have bE := Blk.new w 25 #[.int .i64 0]
  obtain ⟨⟨r, c⟩, hrc⟩ : ∃ p, openC s.data.toList = p := ⟨_, rfl⟩
  by_cases hc : c = 0
  · subst hc
    have HS1 := Lib.hid (HS.out.mono (fun _ _ h => h.to_ok hrc))
    have HRC := Lib.hid hrc
    clear hrc HS
    go_enter_defers Tryz.func11, Tryz.ntmps11
    go_wp2_with (go_at_call 29; with_reducible refine HS1.out.mono ?_; rintro e w1 ⟨hb1, A, cap, ys, rfl, rfl, hY, hnil⟩; have bE1 := bE.below hb1 bE.lt; have cE := bE1.cell 0; have fE := bE1.frozen 0)
    have bE2 := bE1.set 0 (.int .i64 0)
    have hB1 : Below w.heap.size w w1 := hB0.trans (hb1.mono hB0.size)
    have hY1 := sects_set (.int .i64 0) bE1 hY
    refine leaves_cons (f := 28) (args := #[.pointer (some ⟨w.heap.size, 0, none⟩)]) (by simp) (by simp [go_sem]) ?_
    refine (ocatch_idle ⟨w.heap.size, 0, none⟩ 0 _ (bE2.cell 0) (bE2.frozen 0)).mono ?_
    rintro e u' w'' ⟨rfl, rfl, rfl⟩
    have hY2 := sects_set (.int .i64 0) bE2 hY1
    have cE3 := (bE2.set 0 (.int .i64 0)).cell 0
    have hB3 := ((hB1.setCell (p := ⟨w.heap.size, 0, none⟩) (Nat.le_refl _) (.int .i64 0)).setCell (p := ⟨w.heap.size, 0, none⟩) (Nat.le_refl _) (.int .i64 0))
    have hsz : w1.heap.size = ((w1.setCell ⟨w.heap.size, 0, none⟩ (.int .i64 0)).setCell ⟨w.heap.size, 0, none⟩ (.int .i64 0)).heap.size := by simp [World.setCell]
    rw [hsz] at hY2
    clear hY hY1 hsz
    generalize (w1.setCell ⟨w.heap.size, 0, none⟩ (.int .i64 0)).setCell ⟨w.heap.size, 0, none⟩ (.int .i64 0) = W at *
    have cE4 : W.cell? ⟨w.heap.size, 0, none⟩ = some (.int .i64 0) := cE3
    refine ⟨.tuple #[.slice A ys.length cap, .int .i64 0], ?_, hB3, A, cap, ys, by rw [HRC.out], by rw [HRC.out], hY2, hnil⟩
    simp [results, Tryz.results11, go_sem, cE4]
  · have hr0 : r = [] := by
      have := open_err s.data.toList (by rw [hrc]; exact hc)
      rw [hrc] at this
      exact this
    subst hr0
    have HS1 := Lib.hid (HS.out.mono (fun _ _ h => h.to_no hrc hc))
    have HRC := Lib.hid hrc
    clear hrc HS
    go_enter_defers Tryz.func11, Tryz.ntmps11
    go_wp2_with (go_at_call 29; with_reducible refine HS1.out.mono ?_; rintro e w1 ⟨rfl, hb1⟩; have bE1 := bE.below hb1 bE.lt)
    have hB1 : Below w.heap.size w w1 := hB0.trans (hb1.mono hB0.size)
    refine leaves_cons (f := 28) (args := #[.pointer (some ⟨w.heap.size, 0, none⟩)]) (by simp) (by simp [go_sem]) ?_
    refine (ocatch_gone ⟨w.heap.size, 0, none⟩ 0 c _ (bE1.cell 0) (bE1.frozen 0)).mono ?_
    rintro e u' w'' ⟨rfl, rfl, rfl⟩
    have cE3 := (bE1.set 0 (.int .i64 c)).cell 0
    have hB3 := (hB1.setCell (p := ⟨w.heap.size, 0, none⟩) (Nat.le_refl _) (.int .i64 c))
    generalize w1.setCell ⟨w.heap.size, 0, none⟩ (.int .i64 c) = W at *
    have cE4 : W.cell? ⟨w.heap.size, 0, none⟩ = some (.int .i64 c) := cE3
    refine ⟨.tuple #[.slice none 0 0, .int .i64 c], ?_, OpenEnds.none HRC.out hB3⟩
    simp [results, Tryz.results11, go_sem, cE4]

theorem pkg : Pkg := ⟨Seal_any, index_any, fun s w h => Open_any s h w⟩

end Go.Proofs.YtfjdbbhaigjbmaaGreat.Cont
