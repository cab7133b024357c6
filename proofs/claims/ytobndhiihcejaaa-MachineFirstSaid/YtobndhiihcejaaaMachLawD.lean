/-
  The laws of layer 16, walked on what the package's functions come to: a run ends in one of five ways; what is stored is stored as its type asks.
-/
import Derived.Test.YtobndhiihcejaaaMachLawC
import Derived.Test.YtobndhiihcejaaaKindsP
import Derived.Deep.RegionHeld3
import Derived.Deep.DrawnRows
set_option linter.unusedVariables false
set_option linter.unusedSimpArgs false
namespace Go.Proofs.Ytobndhiihcejaaa.Mach
open Go.RowKit Mem _root_.Go.Proofs.Ytobndhiihcejaaa.Arena _root_.Go.Proofs.Ytobndhiihcejaaa.Kinds _root_.Go.Proofs.Ytobndhiihcejaaa.Path _root_.Go.Proofs.Ytobndhiihcejaaa.Cat _root_.Go.Proofs.Ytobndhiihcejaaa.Suite _root_.Go.Proofs.Ytobndhiihcejaaa.Delta
attribute [local go_sem ↓] Go.wp_at_zero Go.wp_at_succ

/-- How a run may end, and what it may store. -/
structure OutOk (vs : List Int) (s : St) : Prop where
  k0 : 0 ≤ s.kind
  k4 : s.kind ≤ 4
  kv : s.kind ≠ 0 → s.value = 0
  ev : ∀ e ∈ s.ev, EvOk vs e
theorem outs_of {p : Prg} {args : List Int} {f : Int} (h : mcheck p.ps p.vs p.xs args.length f = 0) : OutOk p.vs (rrun p.ps p.vs p.xs args f) := by
  have hr := mcheck_zero.1 h
  have hf0 := hr.f0
  obtain ⟨n, rfl⟩ := Int.eq_ofNat_of_zero_le hf0
  rw [rrun_ok h, Int.toNat_natCast]
  obtain ⟨o1, o2, o3, -⟩ := run_out p.vs p.xs args n
  refine ⟨o1, o2, o3, ?_⟩
  have hs := sound_mean hr.all p.xs.length 0 p.xs.length (by omega) (by rw [List.drop_zero]; exact hr.whole) (begin_ p.vs args n) (hr.begin rfl n) rfl
  unfold mrun
  rw [(stop_steps _ 3 0).2.1]
  exact hs.1.ev
theorem none_of {p : Prg} {args : List Int} {f : Int} (h : mcheck p.ps p.vs p.xs args.length f ≠ 0) : rrun p.ps p.vs p.xs args f = ⟨[], [], 0, 0, [], 0, 0, false⟩ := if_neg h
set_option maxRecDepth 100000 in
set_option maxHeartbeats 8000000 in
theorem machineOuts_of (K : MPkg) (hw : Works) (p : Prg) (A : Option Addr) (c : Nat) (args : List Int) (hl : args.length ≤ c) (hA : A = none → c = 0) (f : Int) (hf : N64 f) (n : Int) (hn : N64 n) (w : World) (hp : p.In w) (hR : IRow w w.heap.size A args) :
    Calls Try.prog 6 #[.agg #[.int .i64 p.ps, .slice p.A p.vs.length p.c, .slice p.B p.xs.length p.e], .slice A args.length c, .int .i64 f, .int .i64 n] w fun e w' => e = .returned (.bool true) ∧ Below w.heap.size w w' := by
  have hb0 : Below w.heap.size w (w.alloc (.cells #[.int .i64 p.ps, .slice p.A p.vs.length p.c, .slice p.B p.xs.length p.e] 25)) := (Below.refl _ _).alloc (Nat.le_refl _) _
  have bX := Blk.new w 25 #[.int .i64 p.ps, .slice p.A p.vs.length p.c, .slice p.B p.xs.length p.e]
  obtain ⟨w1, hw1⟩ : ∃ w1, w.alloc (.cells #[.int .i64 p.ps, .slice p.A p.vs.length p.c, .slice p.B p.xs.length p.e] 25) = w1 := ⟨_, rfl⟩
  rw [hw1] at hb0 bX
  have HP := Lib.hid (fun W (hb : Below w1.heap.size w1 W) => (hp.at hb0).at hb)
  have HR := Lib.hid (fun W (hb : Below w1.heap.size w1 W) => (hR.at hb0).at hb)
  have HX := Lib.hid (fun W (hb : Below w1.heap.size w1 W) => (bX.below hb bX.lt).three)
  have HW := Lib.hid (fun W => hw W)
  have HF := Lib.hid (fun W => few16_any p A c args.length f W)
  have HB := Lib.hid hb0
  have HW1 := Lib.hid hw1
  have hgl := bX.lt
  clear hp hR hb0 bX hw1 hw
  cases hfe : mfew p args.length f with
  | false =>
    rw [hfe] at HF
    go_enter Try.func6, Try.ntmps6
    go_wp2_with (first
      | (go_at_call 8; rw [HW1.out]; (with_reducible refine (HW.out _).mono ?_); rintro e w2 ⟨rfl, hb2⟩; obtain ⟨b0, b1, b2⟩ := HX.out _ hb2)
      | (go_at_call 9; (with_reducible refine (HF.out _).mono ?_); rintro e w3 ⟨rfl, hb3⟩; have hb3 := hb2.trans (hb3.mono hb2.size); obtain ⟨b0, b1, b2⟩ := HX.out _ hb3)
      | fail)
    go_ret
    exact ⟨rfl, HB.out.trans (hb3.mono HB.out.size)⟩
  | true =>
    rw [hfe] at HF
    obtain ⟨q1, q2, q3, q4⟩ := mfew_ok hfe
    have HRun := Lib.hid (fun W (hb : Below w1.heap.size w1 W) => (K.run p A c args f W ((HP.out W hb).ok (by omega) (by omega)) (HR.out W hb) hl hA (by omega) hf).mono (RunEnds.open p args f W))
    have HO := Lib.hid (fun h => @outs_of p args f h)
    have HZ := Lib.hid (fun h => @none_of p args f h)
    generalize mcheck p.ps p.vs p.xs args.length f = E at *
    clear q3 q4 hfe hf
    by_cases hE : E = 0
    · have hO := HO.out hE
      subst hE
      clear HO HZ
      generalize rrun p.ps p.vs p.xs args f = s at *
      obtain ⟨k0, k4, kv, hev⟩ := hO
      have j1 : ¬ s.kind < 0 := by omega
      have j2 : ¬ 4 < s.kind := by omega
      have HEV := Lib.hid hev
      have hkk : (s.kind != 0) = false ∨ ((s.kind != 0) = true ∧ (s.value != 0) = false) := by
        by_cases hk : s.kind = 0
        · left; simpa using hk
        · right; exact ⟨by simpa using hk, by simpa using kv hk⟩
      clear k0 k4 kv hev
      by_cases n1 : n < 0
      · rcases hkk with z1 | ⟨z1, z2⟩
        all_goals
          go_enter Try.func6, Try.ntmps6
          go_wp2_with (first
            | (go_at_call 8; rw [HW1.out]; (with_reducible refine (HW.out _).mono ?_); rintro e w2 ⟨rfl, hb2⟩; obtain ⟨b0, b1, b2⟩ := HX.out _ hb2)
            | (go_at_call 9; (with_reducible refine (HF.out _).mono ?_); rintro e w3 ⟨rfl, hb3⟩; have hb3 := hb2.trans (hb3.mono hb2.size); obtain ⟨b0, b1, b2⟩ := HX.out _ hb3)
            | (go_at_call 10; (with_reducible refine (HRun.out _ hb3).mono ?_); rintro e w4 ⟨hb4, A1, c1, rfl, ok1⟩
               have hb4 := hb3.trans (hb4.mono hb3.size)
               have bA := Blk.new w4 32 #[.int .i64 s.kind, .int .i64 s.value, .int .i64 s.steps, .slice A1 s.ev.length c1]
               have hbA : Below w4.heap.size w4 (w4.alloc (.cells #[.int .i64 s.kind, .int .i64 s.value, .int .i64 s.steps, .slice A1 s.ev.length c1] 32)) := (Below.refl _ _).alloc (Nat.le_refl _) _
               have ok1 := ok1.at hbA
               have hb5 := hb4.trans (hbA.mono hb4.size)
               obtain ⟨x0, x1, x2, x3⟩ := blk4 bA
               obtain ⟨b0, b1, b2⟩ := HX.out _ hb5)
            | fail)
          go_ret
          exact ⟨rfl, HB.out.trans (hb5.mono HB.out.size)⟩
      by_cases n2 : (s.ev.length : Int) ≤ n
      · have n3 : s.ev.length ≤ n.toNat := by omega
        rcases hkk with z1 | ⟨z1, z2⟩
        all_goals
          go_enter Try.func6, Try.ntmps6
          go_wp2_with (first
            | (go_at_call 8; rw [HW1.out]; (with_reducible refine (HW.out _).mono ?_); rintro e w2 ⟨rfl, hb2⟩; obtain ⟨b0, b1, b2⟩ := HX.out _ hb2)
            | (go_at_call 9; (with_reducible refine (HF.out _).mono ?_); rintro e w3 ⟨rfl, hb3⟩; have hb3 := hb2.trans (hb3.mono hb2.size); obtain ⟨b0, b1, b2⟩ := HX.out _ hb3)
            | (go_at_call 10; (with_reducible refine (HRun.out _ hb3).mono ?_); rintro e w4 ⟨hb4, A1, c1, rfl, ok1⟩
               have hb4 := hb3.trans (hb4.mono hb3.size)
               have bA := Blk.new w4 32 #[.int .i64 s.kind, .int .i64 s.value, .int .i64 s.steps, .slice A1 s.ev.length c1]
               have hbA : Below w4.heap.size w4 (w4.alloc (.cells #[.int .i64 s.kind, .int .i64 s.value, .int .i64 s.steps, .slice A1 s.ev.length c1] 32)) := (Below.refl _ _).alloc (Nat.le_refl _) _
               have ok1 := ok1.at hbA
               have hb5 := hb4.trans (hbA.mono hb4.size)
               obtain ⟨x0, x1, x2, x3⟩ := blk4 bA
               obtain ⟨b0, b1, b2⟩ := HX.out _ hb5)
            | fail)
          go_ret
          exact ⟨rfl, HB.out.trans (hb5.mono HB.out.size)⟩
      obtain ⟨i, rfl⟩ := Int.eq_ofNat_of_zero_le (show 0 ≤ n by omega)
      obtain ⟨⟨xv, xa, xx⟩, hx⟩ : ∃ x, s.ev[i]? = some x := ⟨_, List.getElem?_eq_getElem (by omega)⟩
      have hE1 := HEV.out _ (List.mem_of_getElem? hx)
      unfold EvOk at hE1
      simp only at hE1
      obtain ⟨x0', xl, hE2⟩ := hE1
      obtain ⟨m, rfl⟩ := Int.eq_ofNat_of_zero_le x0'
      obtain ⟨t, ht⟩ : ∃ t, p.vs[m]? = some t := ⟨_, List.getElem?_eq_getElem (by omega)⟩
      have hvt : vtyp p.vs (m : Int) = t := by
        unfold vtyp
        rw [if_neg (by omega), Int.toNat_natCast, List.getD_eq_getElem?_getD, ht]; rfl
      rw [hvt] at hE2
      obtain ⟨pad, hpA, -, -⟩ := (HP.out w1 (Below.refl _ _)).vars m t ht
      have HPV := Lib.hid (fun W (hb : Below w1.heap.size w1 W) => show W.cell? (pad.add m) = some (.int .i64 t) from by
        obtain ⟨pd, e, -, q⟩ := (HP.out W hb).vars m t ht
        rw [hpA] at e; cases e; exact q)
      have l1 : (m : Int) < (p.vs.length : Int) := by omega
      have l2 : (0 : Int) ≤ (m : Int) := by omega
      have l3 : (i : Int) < (s.ev.length : Int) := by omega
      have l4 : (0 : Int) ≤ (i : Int) := by omega
      have l5 : i < s.ev.length := by omega
      have l6 : m < p.vs.length := by omega
      rw [hpA] at HX HF HRun HW1
      clear hvt ht n1 n2 x0' xl HEV HP
      have hS := fun W => Kinds.Size_any t W
      rcases hE2 with ⟨a0, rfl, a2⟩ | ⟨a0, a1, a2⟩
      · rw [a0] at hS
        have HSZ := Lib.hid hS
        clear hS a0
        by_cases ht0 : t = 0
        · subst ht0
          clear a2
          rcases hkk with z1 | ⟨z1, z2⟩
          all_goals
            go_enter Try.func6, Try.ntmps6
            go_wp2_with (first
              | (go_at_call 8; rw [HW1.out]; (with_reducible refine (HW.out _).mono ?_); rintro e w2 ⟨rfl, hb2⟩; obtain ⟨b0, b1, b2⟩ := HX.out _ hb2)
              | (go_at_call 9; (with_reducible refine (HF.out _).mono ?_); rintro e w3 ⟨rfl, hb3⟩; have hb3 := hb2.trans (hb3.mono hb2.size); obtain ⟨b0, b1, b2⟩ := HX.out _ hb3)
              | (go_at_call 10; (with_reducible refine (HRun.out _ hb3).mono ?_); rintro e w4 ⟨hb4, A1, c1, rfl, ok1⟩
                 have hb4 := hb3.trans (hb4.mono hb3.size)
                 have bA := Blk.new w4 32 #[.int .i64 s.kind, .int .i64 s.value, .int .i64 s.steps, .slice A1 s.ev.length c1]
                 have hbA : Below w4.heap.size w4 (w4.alloc (.cells #[.int .i64 s.kind, .int .i64 s.value, .int .i64 s.steps, .slice A1 s.ev.length c1] 32)) := (Below.refl _ _).alloc (Nat.le_refl _) _
                 have ok1 := ok1.at hbA
                 have hb5 := hb4.trans (hbA.mono hb4.size)
                 obtain ⟨ad, rfl, -, v0, v1, v2⟩ := ok1.row i _ hx
                 simp only at v0 v1 v2
                 obtain ⟨x0, x1, x2, x3⟩ := blk4 bA
                 have hbE := (Below.refl (w4.alloc (.cells #[.int .i64 s.kind, .int .i64 s.value, .int .i64 s.steps, .slice (some ad) s.ev.length c1] 32)).heap.size (w4.alloc (.cells #[.int .i64 s.kind, .int .i64 s.value, .int .i64 s.steps, .slice (some ad) s.ev.length c1] 32))).alloc (Nat.le_refl _) (.cells #[.int .i64 (m : Int), .int .i64 (-1), .int .i64 xx] 41)
                 have hb6 := hb5.trans (hbE.mono hb5.size)
                 have pk := HPV.out _ hb6
                 obtain ⟨d0, d1, d2⟩ := HX.out _ hb6
                 obtain ⟨b0, b1, b2⟩ := HX.out _ hb5)
              | (go_at_call 15; (with_reducible refine (HSZ.out _).mono ?_); rintro e w7 ⟨rfl, hq⟩; have hq := hq.symm; subst hq)
              | fail)
            go_ret
            exact ⟨by simp [*], HB.out.trans (hb6.mono HB.out.size)⟩
        · have z7 : (t == 0) = false := by simpa using ht0
          rcases a2.resolve_left ht0 with rfl | rfl
          · clear ht0
            rcases hkk with z1 | ⟨z1, z2⟩
            all_goals
              go_enter Try.func6, Try.ntmps6
              go_wp2_with (first
                | (go_at_call 8; rw [HW1.out]; (with_reducible refine (HW.out _).mono ?_); rintro e w2 ⟨rfl, hb2⟩; obtain ⟨b0, b1, b2⟩ := HX.out _ hb2)
                | (go_at_call 9; (with_reducible refine (HF.out _).mono ?_); rintro e w3 ⟨rfl, hb3⟩; have hb3 := hb2.trans (hb3.mono hb2.size); obtain ⟨b0, b1, b2⟩ := HX.out _ hb3)
                | (go_at_call 10; (with_reducible refine (HRun.out _ hb3).mono ?_); rintro e w4 ⟨hb4, A1, c1, rfl, ok1⟩
                   have hb4 := hb3.trans (hb4.mono hb3.size)
                   have bA := Blk.new w4 32 #[.int .i64 s.kind, .int .i64 s.value, .int .i64 s.steps, .slice A1 s.ev.length c1]
                   have hbA : Below w4.heap.size w4 (w4.alloc (.cells #[.int .i64 s.kind, .int .i64 s.value, .int .i64 s.steps, .slice A1 s.ev.length c1] 32)) := (Below.refl _ _).alloc (Nat.le_refl _) _
                   have ok1 := ok1.at hbA
                   have hb5 := hb4.trans (hbA.mono hb4.size)
                   obtain ⟨ad, rfl, -, v0, v1, v2⟩ := ok1.row i _ hx
                   simp only at v0 v1 v2
                   obtain ⟨x0, x1, x2, x3⟩ := blk4 bA
                   have hbE := (Below.refl (w4.alloc (.cells #[.int .i64 s.kind, .int .i64 s.value, .int .i64 s.steps, .slice (some ad) s.ev.length c1] 32)).heap.size (w4.alloc (.cells #[.int .i64 s.kind, .int .i64 s.value, .int .i64 s.steps, .slice (some ad) s.ev.length c1] 32))).alloc (Nat.le_refl _) (.cells #[.int .i64 (m : Int), .int .i64 (-1), .int .i64 0] 41)
                   have hb6 := hb5.trans (hbE.mono hb5.size)
                   have pk := HPV.out _ hb6
                   obtain ⟨d0, d1, d2⟩ := HX.out _ hb6
                   obtain ⟨b0, b1, b2⟩ := HX.out _ hb5)
                | (go_at_call 15; (with_reducible refine (HSZ.out _).mono ?_); rintro e w7 ⟨rfl, hq⟩; have hq := hq.symm; subst hq)
                | fail)
              go_ret
              exact ⟨by simp [*], HB.out.trans (hb6.mono HB.out.size)⟩
          · clear ht0
            rcases hkk with z1 | ⟨z1, z2⟩
            all_goals
              go_enter Try.func6, Try.ntmps6
              go_wp2_with (first
                | (go_at_call 8; rw [HW1.out]; (with_reducible refine (HW.out _).mono ?_); rintro e w2 ⟨rfl, hb2⟩; obtain ⟨b0, b1, b2⟩ := HX.out _ hb2)
                | (go_at_call 9; (with_reducible refine (HF.out _).mono ?_); rintro e w3 ⟨rfl, hb3⟩; have hb3 := hb2.trans (hb3.mono hb2.size); obtain ⟨b0, b1, b2⟩ := HX.out _ hb3)
                | (go_at_call 10; (with_reducible refine (HRun.out _ hb3).mono ?_); rintro e w4 ⟨hb4, A1, c1, rfl, ok1⟩
                   have hb4 := hb3.trans (hb4.mono hb3.size)
                   have bA := Blk.new w4 32 #[.int .i64 s.kind, .int .i64 s.value, .int .i64 s.steps, .slice A1 s.ev.length c1]
                   have hbA : Below w4.heap.size w4 (w4.alloc (.cells #[.int .i64 s.kind, .int .i64 s.value, .int .i64 s.steps, .slice A1 s.ev.length c1] 32)) := (Below.refl _ _).alloc (Nat.le_refl _) _
                   have ok1 := ok1.at hbA
                   have hb5 := hb4.trans (hbA.mono hb4.size)
                   obtain ⟨ad, rfl, -, v0, v1, v2⟩ := ok1.row i _ hx
                   simp only at v0 v1 v2
                   obtain ⟨x0, x1, x2, x3⟩ := blk4 bA
                   have hbE := (Below.refl (w4.alloc (.cells #[.int .i64 s.kind, .int .i64 s.value, .int .i64 s.steps, .slice (some ad) s.ev.length c1] 32)).heap.size (w4.alloc (.cells #[.int .i64 s.kind, .int .i64 s.value, .int .i64 s.steps, .slice (some ad) s.ev.length c1] 32))).alloc (Nat.le_refl _) (.cells #[.int .i64 (m : Int), .int .i64 (-1), .int .i64 1] 41)
                   have hb6 := hb5.trans (hbE.mono hb5.size)
                   have pk := HPV.out _ hb6
                   obtain ⟨d0, d1, d2⟩ := HX.out _ hb6
                   obtain ⟨b0, b1, b2⟩ := HX.out _ hb5)
                | (go_at_call 15; (with_reducible refine (HSZ.out _).mono ?_); rintro e w7 ⟨rfl, hq⟩; have hq := hq.symm; subst hq)
                | fail)
              go_ret
              exact ⟨by simp [*], HB.out.trans (hb6.mono HB.out.size)⟩
      · have z5 : (asz t == 0) = false := by rw [beq_eq_false_iff_ne]; omega
        have HSZ := Lib.hid hS
        generalize asz t = z at *
        have z6 : ¬ xa < 0 := by omega
        clear hS
        rcases hkk with z1 | ⟨z1, z2⟩
        all_goals
          go_enter Try.func6, Try.ntmps6
          go_wp2_with (first
            | (go_at_call 8; rw [HW1.out]; (with_reducible refine (HW.out _).mono ?_); rintro e w2 ⟨rfl, hb2⟩; obtain ⟨b0, b1, b2⟩ := HX.out _ hb2)
            | (go_at_call 9; (with_reducible refine (HF.out _).mono ?_); rintro e w3 ⟨rfl, hb3⟩; have hb3 := hb2.trans (hb3.mono hb2.size); obtain ⟨b0, b1, b2⟩ := HX.out _ hb3)
            | (go_at_call 10; (with_reducible refine (HRun.out _ hb3).mono ?_); rintro e w4 ⟨hb4, A1, c1, rfl, ok1⟩
               have hb4 := hb3.trans (hb4.mono hb3.size)
               have bA := Blk.new w4 32 #[.int .i64 s.kind, .int .i64 s.value, .int .i64 s.steps, .slice A1 s.ev.length c1]
               have hbA : Below w4.heap.size w4 (w4.alloc (.cells #[.int .i64 s.kind, .int .i64 s.value, .int .i64 s.steps, .slice A1 s.ev.length c1] 32)) := (Below.refl _ _).alloc (Nat.le_refl _) _
               have ok1 := ok1.at hbA
               have hb5 := hb4.trans (hbA.mono hb4.size)
               obtain ⟨ad, rfl, -, v0, v1, v2⟩ := ok1.row i _ hx
               simp only at v0 v1 v2
               obtain ⟨x0, x1, x2, x3⟩ := blk4 bA
               have hbE := (Below.refl (w4.alloc (.cells #[.int .i64 s.kind, .int .i64 s.value, .int .i64 s.steps, .slice (some ad) s.ev.length c1] 32)).heap.size (w4.alloc (.cells #[.int .i64 s.kind, .int .i64 s.value, .int .i64 s.steps, .slice (some ad) s.ev.length c1] 32))).alloc (Nat.le_refl _) (.cells #[.int .i64 (m : Int), .int .i64 xa, .int .i64 xx] 41)
               have hb6 := hb5.trans (hbE.mono hb5.size)
               have pk := HPV.out _ hb6
               obtain ⟨d0, d1, d2⟩ := HX.out _ hb6
               obtain ⟨b0, b1, b2⟩ := HX.out _ hb5)
            | (go_at_call 15; (with_reducible refine (HSZ.out _).mono ?_); rintro e w7 ⟨rfl, hq⟩; have hq := hq.symm; subst hq)
            | fail)
          go_ret
          exact ⟨by simp [*], HB.out.trans (hb6.mono HB.out.size)⟩
    · have e1 : (E != 0) = true := by simpa using hE
      have hz := HZ.out hE
      have HRunZ := Lib.hid (fun W hb => (HRun.out W hb).mono (fun e w' h => show Below W.heap.size W w' ∧ ∃ A c, e = .returned (.tuple #[.agg #[.int .i64 0, .int .i64 0, .int .i64 0, .slice A 0 c], .int .i64 E]) ∧ (rn A c ⟨[], [], 0, 0, [], 0, 0, false⟩).Ok w' from by obtain ⟨hb, A, c, he, ok⟩ := h; rw [hz] at he ok; exact ⟨hb, A, c, he, ok⟩))
      clear HO HZ hE hz HRun
      go_enter Try.func6, Try.ntmps6
      go_wp2_with (first
        | (go_at_call 8; rw [HW1.out]; (with_reducible refine (HW.out _).mono ?_); rintro e w2 ⟨rfl, hb2⟩; obtain ⟨b0, b1, b2⟩ := HX.out _ hb2)
        | (go_at_call 9; (with_reducible refine (HF.out _).mono ?_); rintro e w3 ⟨rfl, hb3⟩; have hb3 := hb2.trans (hb3.mono hb2.size); obtain ⟨b0, b1, b2⟩ := HX.out _ hb3)
        | (go_at_call 10; (with_reducible refine (HRunZ.out _ hb3).mono ?_); rintro e w4 ⟨hb4, A1, c1, rfl, ok1⟩
           have hb4 := hb3.trans (hb4.mono hb3.size)
           have bA := Blk.new w4 32 #[.int .i64 0, .int .i64 0, .int .i64 0, .slice A1 0 c1]
           have hbA : Below w4.heap.size w4 (w4.alloc (.cells #[.int .i64 0, .int .i64 0, .int .i64 0, .slice A1 0 c1] 32)) := (Below.refl _ _).alloc (Nat.le_refl _) _
           have hb5 := hb4.trans (hbA.mono hb4.size)
           obtain ⟨x0, x1, x2, x3⟩ := blk4 bA)
        | fail)
      go_ret
      exact ⟨rfl, HB.out.trans (hb5.mono HB.out.size)⟩

end Go.Proofs.Ytobndhiihcejaaa.Mach
