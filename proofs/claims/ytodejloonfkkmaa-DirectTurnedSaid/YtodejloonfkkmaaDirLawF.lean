/-
  The laws of layer 17, walked: a condition that is turned: where nothing is asked, and all together. (Written by tools/gen_dirturned2.py.)
-/
import Derived.Test.YtodejloonfkkmaaDirLawA
import Derived.Test.YtodejloonfkkmaaDirLawE
import Derived.Deep.RegionHeld3
import Derived.Deep.DrawnRows
import Derived.Deep.AppendLies
set_option linter.unusedVariables false
set_option linter.unusedSimpArgs false
namespace Go.Proofs.Ytodejloonfkkmaa.Dir
open Go.RowKit Mem _root_.Go.Proofs.Ytodejloonfkkmaa.Arena _root_.Go.Proofs.Ytodejloonfkkmaa.Kinds _root_.Go.Proofs.Ytodejloonfkkmaa.Path _root_.Go.Proofs.Ytodejloonfkkmaa.Cat _root_.Go.Proofs.Ytodejloonfkkmaa.Suite _root_.Go.Proofs.Ytodejloonfkkmaa.Delta _root_.Go.Proofs.Ytodejloonfkkmaa.Mach
attribute [local go_sem ↓] Go.wp_at_zero Go.wp_at_succ

set_option maxRecDepth 100000 in
set_option maxHeartbeats 8000000 in
theorem turned_idle (hw : Works) (p : Prg) (A : Option Addr) (c : Nat) (args : List Int) (hl : args.length ≤ c) (hA : A = none → c = 0) (f : Int) (hf : N64 f) (w : World) (hp : p.In w) (hR : IRow w w.heap.size A args) (hidle : mfew p args.length f = false ∨ p.xs.length < 2) :
    Calls Try.prog 4 #[.agg #[.int .i64 p.ps, .slice p.A p.vs.length p.c, .slice p.B p.xs.length p.e], .slice A args.length c, .int .i64 f] w fun e w' => e = .returned (.bool true) ∧ Below w.heap.size w w' := by
  have hB0 : Below w.heap.size w (w.alloc (.cells #[.int .i64 p.ps, .slice p.A p.vs.length p.c, .slice p.B p.xs.length p.e] 25)) := (Below.refl _ _).alloc (Nat.le_refl _) _
  have bX := Blk.new w 25 #[.int .i64 p.ps, .slice p.A p.vs.length p.c, .slice p.B p.xs.length p.e]
  have hi := hp.at hB0
  have hr := hR.at hB0
  obtain ⟨wQ, hwQ⟩ : ∃ wQ, w.alloc (.cells #[.int .i64 p.ps, .slice p.A p.vs.length p.c, .slice p.B p.xs.length p.e] 25) = wQ := ⟨_, rfl⟩
  rw [hwQ] at hB0 bX hi hr
  have hgl := bX.lt
  have HBX := Lib.hid (fun W (h : Below wQ.heap.size wQ W) => (bX.below h hgl).three)
  have HP := Lib.hid hi
  have HR := Lib.hid (fun W (h : Below wQ.heap.size wQ W) => hr.at h)
  have HWQ := Lib.hid hwQ
  have HW := Lib.hid (fun W => hw W)
  have HF := Lib.hid (fun W => few17_any p A c args.length f W)
  clear hp hR bX hwQ hi hr
  have HIDE := Lib.hid hidle
  clear hidle
  cases hfe : mfew p args.length f with
  | false =>
    rw [hfe] at HF
    go_enter Try.func4, Try.ntmps4
    go_wp2_with (first
      | (go_at_call 6; rw [HWQ.out]; (with_reducible refine (HW.out _).mono ?_); rintro e w2 ⟨rfl, hb2⟩; obtain ⟨b0, b1, b2⟩ := HBX.out _ hb2)
      | (go_at_call 7; (with_reducible refine (HF.out _).mono ?_); rintro e w3 ⟨rfl, hb⟩; have hb3 := hb2.trans (hb.mono hb2.size); obtain ⟨b0, b1, b2⟩ := HBX.out _ hb3)
      | fail)
    go_ret
    exact ⟨rfl, hB0.trans (hb3.mono hB0.size)⟩
  | true =>
  rw [hfe] at HF
  have j1 : (p.xs.length : Int) < 2 := by
    rcases HIDE.out with z | z
    · rw [hfe] at z; cases z
    · omega
  clear hfe HIDE
  go_enter Try.func4, Try.ntmps4
  go_wp2_with (first
    | (go_at_call 6; rw [HWQ.out]; (with_reducible refine (HW.out _).mono ?_); rintro e w2 ⟨rfl, hb2⟩; obtain ⟨b0, b1, b2⟩ := HBX.out _ hb2)
    | (go_at_call 7; (with_reducible refine (HF.out _).mono ?_); rintro e w3 ⟨rfl, hb⟩; have hb3 := hb2.trans (hb.mono hb2.size); obtain ⟨b0, b1, b2⟩ := HBX.out _ hb3)
    | fail)
  go_ret
  exact ⟨rfl, hB0.trans (hb3.mono hB0.size)⟩

set_option maxRecDepth 100000 in
set_option maxHeartbeats 16000000 in
theorem turned_idle2 (K : DPkg) (hw : Works) (ps : Int) (A0 : Option Addr) (c0 : Nat) (vs : List Int) (adb : Addr) (ce : Nat) (l : List Nd) (t0 N0 t1 N1 : Int) (hx0 : l[0]? = some (t0, N0)) (hx1 : l[1]? = some (t1, N1)) (A : Option Addr) (c : Nat) (args : List Int) (hl : args.length ≤ c) (hA : A = none → c = 0) (f : Int) (hf : N64 f) (w : World) (hp : Prg.In (⟨ps, A0, c0, vs, some adb, ce, l⟩ : Prg) w) (hR : IRow w w.heap.size A args) (hfe : mfew (⟨ps, A0, c0, vs, some adb, ce, l⟩ : Prg) args.length f = true)
    (hidle : ¬ (t0 = 20 ∧ N0 = 1) ∨ t1 ≠ 23 ∨ mcheck ps vs l args.length f ≠ 0 ∨ f < 2) :
    Calls Try.prog 4 #[.agg #[.int .i64 ps, .slice A0 vs.length c0, .slice (some adb) l.length ce], .slice A args.length c, .int .i64 f] w fun e w' => e = .returned (.bool true) ∧ Below w.heap.size w w' := by
  have hB0 : Below w.heap.size w (w.alloc (.cells #[.int .i64 ps, .slice A0 vs.length c0, .slice (some adb) l.length ce] 25)) := (Below.refl _ _).alloc (Nat.le_refl _) _
  have bX := Blk.new w 25 #[.int .i64 ps, .slice A0 vs.length c0, .slice (some adb) l.length ce]
  have hi := hp.at hB0
  have hr := hR.at hB0
  obtain ⟨wQ, hwQ⟩ : ∃ wQ, w.alloc (.cells #[.int .i64 ps, .slice A0 vs.length c0, .slice (some adb) l.length ce] 25) = wQ := ⟨_, rfl⟩
  rw [hwQ] at hB0 bX hi hr
  have hgl := bX.lt
  have HN := fun W (h : Below wQ.heap.size wQ W) => (show Prg.In (⟨ps, A0, c0, vs, some adb, ce, l⟩ : Prg) W from hi.at h).body
  have HNC := fun W (h : Below wQ.heap.size wQ W) => show W.cell? adb = some (.int .i64 t0) ∧ W.cell? ⟨adb.block, adb.off + 1, none⟩ = some (.int .i64 N0) ∧ W.cell? ⟨adb.block, adb.off + 2, none⟩ = some (.int .i64 t1) ∧ W.cell? ⟨adb.block, adb.off + 2 + 1, none⟩ = some (.int .i64 N1) from by
    obtain ⟨ad, e, -, n0, n1⟩ := HN W h 0 _ hx0
    obtain ⟨ad', e', -, n2, n3⟩ := HN W h 1 _ hx1
    cases e
    cases e'
    exact ⟨n0, n1, n2, n3⟩
  have HBX := Lib.hid (fun W (h : Below wQ.heap.size wQ W) => And.intro (bX.below h hgl).three (HNC W h))
  have HP := Lib.hid hi
  have HR := Lib.hid (fun W (h : Below wQ.heap.size wQ W) => hr.at h)
  have HWQ := Lib.hid hwQ
  have HW := Lib.hid (fun W => hw W)
  have HF := Lib.hid (fun W => (show Calls Try.prog 7 #[.agg #[.int .i64 ps, .slice A0 vs.length c0, .slice (some adb) l.length ce], .slice A args.length c, .int .i64 f] W (fun e w' => e = .returned (.bool (mfew (⟨ps, A0, c0, vs, some adb, ce, l⟩ : Prg) args.length f)) ∧ Below W.heap.size W w') from few17_any (⟨ps, A0, c0, vs, some adb, ce, l⟩ : Prg) A c args.length f W))
  clear hp hR bX hwQ hi hr HN HNC
  rw [hfe] at HF
  obtain ⟨m1, m2, q3, q4⟩ := mfew_ok hfe
  simp only at m1 m2
  have q1 : vs.length ≤ 1000000 := by omega
  have q2 : l.length ≤ 1000000 := by omega
  have hlen : 2 ≤ l.length := by
    have := (List.getElem?_eq_some_iff.1 hx1).1
    omega
  have j1 : ¬ (l.length : Int) < 2 := by omega
  have j3 : (0 : Int) < (l.length : Int) := by omega
  have j4 : (1 : Int) < (l.length : Int) := by omega
  have HIDE := Lib.hid hidle
  clear hlen hx0 hx1 hidle hfe
  by_cases h20 : t0 = 20
  case neg =>
    have e1 : (t0 == 20) = false := by simpa using h20
    go_enter Try.func4, Try.ntmps4
    go_wp2_with (first
      | (go_at_call 6; rw [HWQ.out]; (with_reducible refine (HW.out _).mono ?_); rintro e w2 ⟨rfl, hb2⟩; obtain ⟨⟨b0, b1, b2⟩, n0, n1, n2, n3⟩ := HBX.out _ hb2)
      | (go_at_call 7; (with_reducible refine (HF.out _).mono ?_); rintro e w3 ⟨rfl, hb⟩; have hb3 := hb2.trans (hb.mono hb2.size); obtain ⟨⟨b0, b1, b2⟩, n0, n1, n2, n3⟩ := HBX.out _ hb3)
      | fail)
    all_goals (go_ret; exact ⟨rfl, hB0.trans (hb3.mono hB0.size)⟩)
  subst h20
  by_cases h1 : N0 = 1
  case neg =>
    have e1 : (N0 == 1) = false := by simpa using h1
    go_enter Try.func4, Try.ntmps4
    go_wp2_with (first
      | (go_at_call 6; rw [HWQ.out]; (with_reducible refine (HW.out _).mono ?_); rintro e w2 ⟨rfl, hb2⟩; obtain ⟨⟨b0, b1, b2⟩, n0, n1, n2, n3⟩ := HBX.out _ hb2)
      | (go_at_call 7; (with_reducible refine (HF.out _).mono ?_); rintro e w3 ⟨rfl, hb⟩; have hb3 := hb2.trans (hb.mono hb2.size); obtain ⟨⟨b0, b1, b2⟩, n0, n1, n2, n3⟩ := HBX.out _ hb3)
      | fail)
    all_goals (go_ret; exact ⟨rfl, hB0.trans (hb3.mono hB0.size)⟩)
  subst h1
  by_cases h23 : t1 = 23
  case neg =>
    have e1 : (t1 == 23) = false := by simpa using h23
    have e2 : (t1 != 23) = true := by simpa using h23
    go_enter Try.func4, Try.ntmps4
    go_wp2_with (first
      | (go_at_call 6; rw [HWQ.out]; (with_reducible refine (HW.out _).mono ?_); rintro e w2 ⟨rfl, hb2⟩; obtain ⟨⟨b0, b1, b2⟩, n0, n1, n2, n3⟩ := HBX.out _ hb2)
      | (go_at_call 7; (with_reducible refine (HF.out _).mono ?_); rintro e w3 ⟨rfl, hb⟩; have hb3 := hb2.trans (hb.mono hb2.size); obtain ⟨⟨b0, b1, b2⟩, n0, n1, n2, n3⟩ := HBX.out _ hb3)
      | fail)
    all_goals (go_ret; exact ⟨rfl, hB0.trans (hb3.mono hB0.size)⟩)
  subst h23
  have hE : mcheck ps vs l args.length f ≠ 0 ∨ f < 2 := by
    rcases HIDE.out with z | z | z
    · exact absurd ⟨rfl, rfl⟩ z
    · exact absurd rfl z
    · exact z
  have HKI := Lib.hid (fun W (hb : Below wQ.heap.size wQ W) => show Calls Try.prog 13 #[.slice (some adb) l.length ce, .int .i64 1] W (IntsEnds (akids l 1) W) from Kids_any (some adb) ce l 1 W (((HP.out.at hb).ok q1 q2).body) q2)
  have KD := Lib.hid (fun W (hb : Below wQ.heap.size wQ W) => show Calls Try.prog 8 #[.agg #[.int .i64 ps, .slice A0 vs.length c0, .slice (some adb) l.length ce], .slice A args.length c, .int .i64 f] W (RunEnds' (⟨ps, A0, c0, vs, some adb, ce, l⟩ : Prg) args f (rrun ps vs l args f) (mcheck ps vs l args.length f) W) from (K.run (⟨ps, A0, c0, vs, some adb, ce, l⟩ : Prg) A c args f W ((HP.out.at hb).ok q1 q2) (HR.out W hb) hl hA (by omega) hf).mono (RunEnds.open (⟨ps, A0, c0, vs, some adb, ce, l⟩ : Prg) args f W))
  generalize rrun ps vs l args f = s at *
  generalize mcheck ps vs l args.length f = E at *
  generalize akids l 1 = ks at *
  clear HIDE
  by_cases h0 : E = 0
  · subst h0
    have j2 : f < 2 := by
      rcases hE with z | z
      · exact absurd rfl z
      · exact z
    clear hE
    go_enter Try.func4, Try.ntmps4
    go_wp2_with (first
      | (go_at_call 6; rw [HWQ.out]; (with_reducible refine (HW.out _).mono ?_); rintro e w2 ⟨rfl, hb2⟩; obtain ⟨⟨b0, b1, b2⟩, n0, n1, n2, n3⟩ := HBX.out _ hb2)
      | (go_at_call 7; (with_reducible refine (HF.out _).mono ?_); rintro e w3 ⟨rfl, hb⟩; have hb3 := hb2.trans (hb.mono hb2.size); obtain ⟨⟨b0, b1, b2⟩, n0, n1, n2, n3⟩ := HBX.out _ hb3)
      | (go_at_call 13; (with_reducible refine (HKI.out _ hb3).mono ?_); rintro e w4 ⟨hb, K4, cK, rfl, rk4, fk4⟩; have hb4 := hb3.trans (hb.mono hb3.size); obtain ⟨⟨b0, b1, b2⟩, n0, n1, n2, n3⟩ := HBX.out _ hb4)
      | (go_at_call 8; (with_reducible refine (KD.out _ hb4).mono ?_); rintro e w5 ⟨hb5, A1, c1, rfl, ok1⟩; have hb6 := hb4.trans (hb5.mono hb4.size); have hb6 := hb6.alloc hb6.size (.cells #[.int .i64 s.kind, .int .i64 s.value, .int .i64 s.steps, .slice A1 s.ev.length c1] 32))
      | fail)
    all_goals (go_ret; exact ⟨rfl, hB0.trans (hb6.mono hB0.size)⟩)
  · have e0 : (E == 0) = false := by simpa using h0
    have e1 : (E != 0) = true := by simpa using h0
    clear hE h0
    go_enter Try.func4, Try.ntmps4
    go_wp2_with (first
      | (go_at_call 6; rw [HWQ.out]; (with_reducible refine (HW.out _).mono ?_); rintro e w2 ⟨rfl, hb2⟩; obtain ⟨⟨b0, b1, b2⟩, n0, n1, n2, n3⟩ := HBX.out _ hb2)
      | (go_at_call 7; (with_reducible refine (HF.out _).mono ?_); rintro e w3 ⟨rfl, hb⟩; have hb3 := hb2.trans (hb.mono hb2.size); obtain ⟨⟨b0, b1, b2⟩, n0, n1, n2, n3⟩ := HBX.out _ hb3)
      | (go_at_call 13; (with_reducible refine (HKI.out _ hb3).mono ?_); rintro e w4 ⟨hb, K4, cK, rfl, rk4, fk4⟩; have hb4 := hb3.trans (hb.mono hb3.size); obtain ⟨⟨b0, b1, b2⟩, n0, n1, n2, n3⟩ := HBX.out _ hb4)
      | (go_at_call 8; (with_reducible refine (KD.out _ hb4).mono ?_); rintro e w5 ⟨hb5, A1, c1, rfl, ok1⟩; have hb6 := hb4.trans (hb5.mono hb4.size); have hb6 := hb6.alloc hb6.size (.cells #[.int .i64 s.kind, .int .i64 s.value, .int .i64 s.steps, .slice A1 s.ev.length c1] 32))
      | fail)
    all_goals (go_ret; exact ⟨rfl, hB0.trans (hb6.mono hB0.size)⟩)

theorem directTurned_of (K : DPkg) (hw : Works) (p : Prg) (A : Option Addr) (c : Nat) (args : List Int) (hl : args.length ≤ c) (hA : A = none → c = 0) (f : Int) (hf : N64 f) (w : World) (hp : p.In w) (hR : IRow w w.heap.size A args) :
    Calls Try.prog 4 #[.agg #[.int .i64 p.ps, .slice p.A p.vs.length p.c, .slice p.B p.xs.length p.e], .slice A args.length c, .int .i64 f] w fun e w' => e = .returned (.bool true) ∧ Below w.heap.size w w' := by
  cases hfe : mfew p args.length f with
  | false => exact turned_idle hw p A c args hl hA f hf w hp hR (.inl hfe)
  | true =>
    obtain ⟨ps, A0, c0, vs, B, ce, l⟩ := p
    match l, hp, hfe with
    | [], hp, hfe => exact turned_idle hw _ A c args hl hA f hf w hp hR (.inr (by simp))
    | [x], hp, hfe => exact turned_idle hw _ A c args hl hA f hf w hp hR (.inr (by simp))
    | (t0, N0) :: (t1, N1) :: r, hp, hfe =>
      obtain ⟨adb, hB, -⟩ := hp.body 0 _ rfl
      simp only at hB
      subst hB
      by_cases h : (t0 = 20 ∧ N0 = 1) ∧ t1 = 23 ∧ mcheck ps vs ((t0, N0) :: (t1, N1) :: r) args.length f = 0 ∧ 2 ≤ f
      · obtain ⟨⟨rfl, rfl⟩, rfl, hE, h2⟩ := h
        have h4 := (mfew_ok hfe).2.2.2
        have h5 := (mcheck_zero.1 hE).f1
        obtain ⟨C, X, Y, k2, k3, hT⟩ := twice_of hE h2 (by omega)
        exact turned_main K hw ps A0 c0 vs adb ce _ C X Y k2 k3 A c args hl hA f hf w hp hR hfe h2 hT
      · refine turned_idle2 K hw ps A0 c0 vs adb ce _ t0 N0 t1 N1 rfl rfl A c args hl hA f hf w hp hR hfe ?_
        by_cases h1 : t0 = 20 ∧ N0 = 1
        · by_cases h2 : t1 = 23
          · by_cases h3 : mcheck ps vs ((t0, N0) :: (t1, N1) :: r) args.length f = 0
            · exact .inr (.inr (.inr (by have : ¬ 2 ≤ f := fun z => h ⟨h1, h2, h3, z⟩; omega)))
            · exact .inr (.inr (.inl h3))
          · exact .inr (.inl h2)
        · exact .inl h1

end Go.Proofs.Ytodejloonfkkmaa.Dir
