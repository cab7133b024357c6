/-
  The laws of layer 17, walked: a variable that is not used. (Written by tools/gen_dirunused.py.)
-/
import Derived.Test.YtodejloonfkkmaaDirLawA
import Derived.Test.YtodejloonfkkmaaDirMore
import Derived.Test.YtodejloonfkkmaaDirLawC
import Derived.Test.YtodejloonfkkmaaOrdersU
import Derived.Test.YtodejloonfkkmaaDirRow
import Derived.Deep.CutBlock
import Derived.Deep.RegionHeld3
import Derived.Deep.DrawnRows
import Derived.Deep.AppendLies
set_option linter.unusedVariables false
set_option linter.unusedSimpArgs false
namespace Go.Proofs.Ytodejloonfkkmaa.Dir
open Go.RowKit Mem _root_.Go.Proofs.Ytodejloonfkkmaa.Arena _root_.Go.Proofs.Ytodejloonfkkmaa.Kinds _root_.Go.Proofs.Ytodejloonfkkmaa.Path _root_.Go.Proofs.Ytodejloonfkkmaa.Cat _root_.Go.Proofs.Ytodejloonfkkmaa.Suite _root_.Go.Proofs.Ytodejloonfkkmaa.Delta _root_.Go.Proofs.Ytodejloonfkkmaa.Mach
attribute [local go_sem ↓] Go.wp_at_zero Go.wp_at_succ

set_option maxRecDepth 100000 in
set_option maxHeartbeats 16000000 in
theorem unused_some (K : DPkg) (hw : Works) (ps : Int) (ad5 : Addr) (c0 : Nat) (vs : List Int) (B : Option Addr) (ce : Nat) (xs : List Nd) (t : Int) (A : Option Addr) (c : Nat) (args : List Int) (hl : args.length ≤ c) (hA : A = none → c = 0) (f : Int) (hf : N64 f) (w : World) (hp : Prg.In (⟨ps, (some ad5), c0, vs, B, ce, xs⟩ : Prg) w) (hR : IRow w w.heap.size A args) (hfe : mfew (⟨ps, (some ad5), c0, vs, B, ce, xs⟩ : Prg) args.length f = true) (h0 : ¬ t < 0) (h9 : ¬ 9 < t) (h12 : vs.length < 12) (hE : mcheck ps vs xs args.length f = 0) (hv0 : 0 < vs.length) :
    Calls Try.prog 5 #[.agg #[.int .i64 ps, .slice (some ad5) vs.length c0, .slice B xs.length ce], .int .i64 t, .slice A args.length c, .int .i64 f] w fun e w' => e = .returned (.bool true) ∧ Below w.heap.size w w' := by
  have hB0 : Below w.heap.size w (w.alloc (.cells #[.int .i64 ps, .slice (some ad5) vs.length c0, .slice B xs.length ce] 25)) := (Below.refl _ _).alloc (Nat.le_refl _) _
  have bX := Blk.new w 25 #[.int .i64 ps, .slice (some ad5) vs.length c0, .slice B xs.length ce]
  have hi := hp.at hB0
  have hr := hR.at hB0
  obtain ⟨wQ, hwQ⟩ : ∃ wQ, w.alloc (.cells #[.int .i64 ps, .slice (some ad5) vs.length c0, .slice B xs.length ce] 25) = wQ := ⟨_, rfl⟩
  rw [hwQ] at hB0 bX hi hr
  have hgl := bX.lt
  have HBX := Lib.hid (fun W (h : Below wQ.heap.size wQ W) => (bX.below h hgl).three)
  have HP := Lib.hid hi
  have HR := Lib.hid (fun W (h : Below wQ.heap.size wQ W) => hr.at h)
  have HWQ := Lib.hid hwQ
  have HW := Lib.hid (fun W => hw W)
  have HF := Lib.hid (fun W => (show Calls Try.prog 7 #[.agg #[.int .i64 ps, .slice (some ad5) vs.length c0, .slice B xs.length ce], .slice A args.length c, .int .i64 f] W (fun e w' => e = .returned (.bool (mfew (⟨ps, (some ad5), c0, vs, B, ce, xs⟩ : Prg) args.length f)) ∧ Below W.heap.size W w') from few17_any (⟨ps, (some ad5), c0, vs, B, ce, xs⟩ : Prg) A c args.length f W))
  clear hp hR bX hwQ hi hr
  rw [hfe] at HF
  obtain ⟨m1, m2, q3, q4⟩ := mfew_ok hfe
  simp only at m1 m2
  have hlv : vs.length ≤ 20 := m1
  have q1 : vs.length ≤ 1000000 := by omega
  have q2 : xs.length ≤ 1000000 := by omega
  have j1 : ¬ (12 : Int) ≤ (vs.length : Int) := by omega
  have hright := mcheck_zero.1 hE
  have hE2 : mcheck ps (vs ++ [t]) xs args.length f = 0 := mcheck_zero.2 (right_more ⟨by omega, by omega⟩ h12 hright)
  have hal : Mach.Alike (rrun ps (vs ++ [t]) xs args f) (rrun ps vs xs args f) := by
    rw [rrun_ok hE2, rrun_ok hE]
    exact run_unused t hright
  have KD := Lib.hid (fun W (hb : Below wQ.heap.size wQ W) => show Calls Try.prog 8 #[.agg #[.int .i64 ps, .slice (some ad5) vs.length c0, .slice B xs.length ce], .slice A args.length c, .int .i64 f] W (RunEnds' (⟨ps, (some ad5), c0, vs, B, ce, xs⟩ : Prg) args f (rrun ps vs xs args f) (mcheck ps vs xs args.length f) W) from (K.run (⟨ps, (some ad5), c0, vs, B, ce, xs⟩ : Prg) A c args f W ((HP.out.at hb).ok q1 q2) (HR.out W hb) hl hA (by omega) hf).mono (RunEnds.open (⟨ps, (some ad5), c0, vs, B, ce, xs⟩ : Prg) args f W))
  have K2 := Lib.hid (fun g cap W (hb : Below wQ.heap.size wQ W) (h3 : IRow W W.heap.size (some ⟨g, 0, none⟩) (vs ++ [t])) (h1 : (vs.length + 1) ≤ cap) => show Calls Try.prog 8 #[.agg #[.int .i64 ps, .slice (some ⟨g, 0, none⟩) (vs.length + 1) cap, .slice B xs.length ce], .slice A args.length c, .int .i64 f] W (RunEnds' ⟨ps, some ⟨g, 0, none⟩, cap, vs ++ [t], B, ce, xs⟩ args f (rrun ps (vs ++ [t]) xs args f) (mcheck ps (vs ++ [t]) xs args.length f) W) from by
    have h := (HP.out.at hb).ok q1 q2
    have q := (K.run ⟨ps, some ⟨g, 0, none⟩, cap, vs ++ [t], B, ce, xs⟩ A c args f W ⟨h3, h.body, by first | (simp; done) | (simp; omega), h.lx, by first | (simp; done) | (simp; omega), h.ce, (fun e => by cases e), h.nb⟩ (HR.out W hb) hl hA (by omega) hf).mono (RunEnds.open _ args f W)
    simpa using q)
  rw [hE] at KD
  rw [hE2] at K2
  generalize rrun ps (vs ++ [t]) xs args f = s2 at *
  generalize rrun ps vs xs args f = s at *
  have HAL := Lib.hid hal
  clear hal hE hE2 hright hfe
  obtain ⟨ig, hig, hz0, hz1, hz2⟩ := info_parts info_int
  go_enter Try.func5, Try.ntmps5
  go_wp2_with (first
    | (go_at_call 6; rw [HWQ.out]; (with_reducible refine (HW.out _).mono ?_); rintro e w2 ⟨rfl, hb2⟩; obtain ⟨b0, b1, b2⟩ := HBX.out _ hb2)
    | (go_at_call 7; (with_reducible refine (HF.out _).mono ?_); rintro e w3 ⟨rfl, hb⟩; have hb3 := hb2.trans (hb.mono hb2.size); obtain ⟨b0, b1, b2⟩ := HBX.out _ hb3)
    | (go_at_call 8; (with_reducible refine (KD.out _ hb3).mono ?_); rintro e w4 ⟨hb4, A1, c1, rfl, ok1⟩
       have bA := Blk.new w4 32 #[.int .i64 s.kind, .int .i64 s.value, .int .i64 s.steps, .slice A1 s.ev.length c1]
       have hbA : Below w4.heap.size w4 (w4.alloc (.cells #[.int .i64 s.kind, .int .i64 s.value, .int .i64 s.steps, .slice A1 s.ev.length c1] 32)) := (Below.refl _ _).alloc (Nat.le_refl _) _
       have ok1 := ok1.at hbA
       have hb5 := (hb3.trans (hb4.mono hb3.size)).trans (hbA.mono (hb3.trans (hb4.mono hb3.size)).size)
       obtain ⟨b0, b1, b2⟩ := HBX.out _ hb5)
    | fail)
  have bA5 : Blk (w4.alloc (.cells #[.int .i64 s.kind, .int .i64 s.value, .int .i64 s.steps, .slice A1 s.ev.length c1] 32)) w4.heap.size 32 #[.int .i64 s.kind, .int .i64 s.value, .int .i64 s.steps, .slice A1 s.ev.length c1] := bA
  have hg5 : w4.heap.size < (w4.alloc (.cells #[.int .i64 s.kind, .int .i64 s.value, .int .i64 s.steps, .slice A1 s.ev.length c1] 32)).heap.size := by simp
  obtain ⟨w5, hw5⟩ : ∃ w5, w4.alloc (.cells #[.int .i64 s.kind, .int .i64 s.value, .int .i64 s.steps, .slice A1 s.ev.length c1] 32) = w5 := ⟨_, rfl⟩
  rw [hw5] at ok1 hb5 bA5 hg5 b0 b1 b2 ⊢
  clear bA hbA hw5 hb4 hb3 hb2
  have HZ := Lib.hid (And.intro bA5 (And.intro ok1 hg5))
  have hC := And.intro b0 (And.intro b1 b2)
  clear b0 b1 b2 bA5 ok1 hg5
  generalize w4.heap.size = g4 at *
  go_cut [12] from 50 to 62 (fun r wx => ∃ gq g8 cap8, r = .pointer (some ⟨gq, 0, none⟩) ∧ Below w5.heap.size w5 wx ∧ w5.heap.size ≤ gq ∧ Blk wx gq 25 #[.int .i64 ps, .slice (some ⟨g8, 0, none⟩) (vs.length + 1) cap8, .slice B xs.length ce] ∧ IRow wx wx.heap.size (some ⟨g8, 0, none⟩) (vs ++ [t]) ∧ (vs.length + 1) ≤ cap8)
  case first =>
    have hC' : (fun w' : World => w'.cell? ⟨w.heap.size, 0, none⟩ = some (.int .i64 ps) ∧ w'.cell? ⟨w.heap.size, 1, none⟩ = some (.slice (some ad5) vs.length c0) ∧ w'.cell? ⟨w.heap.size, 2, none⟩ = some (.slice B xs.length ce)) w5.drew := hC
    refine OrdU.wp_region_U 13 (fun w' => w'.cell? ⟨w.heap.size, 0, none⟩ = some (.int .i64 ps) ∧ w'.cell? ⟨w.heap.size, 1, none⟩ = some (.slice (some ad5) vs.length c0) ∧ w'.cell? ⟨w.heap.size, 2, none⟩ = some (.slice B xs.length ce)) (by kernel_rfl) hC' (fun hHeld => ?_)
    refine OrdU.wpAnyU_take (i := 0) (oi := ⟨some 50, _, _, _, _, none⟩) (v := ?_) rfl (by kernel_rfl) (by kernel_rfl) (by kernel_rfl) (by decide) (by kernel_rfl) (fun _ _ _ h => h) (Or.inl ⟨by rfl, ?_⟩) (by assumption) ?_
    rotate_left
    · (intro w hSw; (try dsimp only at hSw); go_simp; (try with_reducible rfl))
    try simp only [Act.put, List.setIfInBounds_toArray, List.set_cons_zero, List.set_cons_succ]
    refine OrdU.wpAnyU_take (i := 1) (oi := ⟨some 51, _, _, _, _, none⟩) (v := ?_) rfl (by kernel_rfl) (by kernel_rfl) (by kernel_rfl) (by decide) (by kernel_rfl) (fun _ _ _ h => h) (Or.inl ⟨by rfl, ?_⟩) (by assumption) ?_
    rotate_left
    · (intro w hSw; (try dsimp only at hSw); go_simp; (try with_reducible rfl))
    try simp only [Act.put, List.setIfInBounds_toArray, List.set_cons_zero, List.set_cons_succ]
    refine OrdU.wpAnyU_take (i := 3) (oi := ⟨some 53, _, _, _, _, none⟩) (v := ?_) rfl (by kernel_rfl) (by kernel_rfl) (by kernel_rfl) (by decide) (by kernel_rfl) (fun _ _ _ h => h) (Or.inl ⟨by rfl, ?_⟩) (by assumption) ?_
    rotate_left
    · (intro w hSw; (try dsimp only at hSw); go_simp; (try with_reducible rfl))
    try simp only [Act.put, List.setIfInBounds_toArray, List.set_cons_zero, List.set_cons_succ]
    refine OrdU.wpAnyU_take (i := 4) (oi := ⟨some 54, _, _, _, _, none⟩) (v := ?_) rfl (by kernel_rfl) (by kernel_rfl) (by kernel_rfl) (by decide) (by kernel_rfl) (fun _ _ _ h => h) (Or.inl ⟨by rfl, ?_⟩) (by assumption) ?_
    rotate_left
    · (intro w hSw; (try dsimp only at hSw); go_simp; (try with_reducible rfl))
    try simp only [Act.put, List.setIfInBounds_toArray, List.set_cons_zero, List.set_cons_succ]
    refine OrdU.wpAnyU_take (i := 6) (oi := ⟨some 56, _, _, _, _, none⟩) (v := ?_) rfl (by kernel_rfl) (by kernel_rfl) (by kernel_rfl) (by decide) (by kernel_rfl) (fun _ _ _ h => h) (Or.inl ⟨by rfl, ?_⟩) (by assumption) ?_
    rotate_left
    · (intro w hSw; (try dsimp only at hSw); go_simp; (try with_reducible rfl))
    try simp only [Act.put, List.setIfInBounds_toArray, List.set_cons_zero, List.set_cons_succ]
    refine OrdU.wpAnyU_take (i := 9) (oi := ⟨some 59, _, _, _, _, none⟩) (v := ?_) rfl (by kernel_rfl) (by kernel_rfl) (by kernel_rfl) (by decide) (by kernel_rfl) (fun _ _ _ h => h) (Or.inl ⟨by rfl, ?_⟩) (by assumption) ?_
    rotate_left
    · (intro w hSw; (try dsimp only at hSw); go_simp; (try with_reducible rfl))
    try simp only [Act.put, List.setIfInBounds_toArray, List.set_cons_zero, List.set_cons_succ]
    refine OrdU.wpAnyU_take (i := 10) (oi := ⟨some 60, _, _, _, _, none⟩) (v := ?_) rfl (by kernel_rfl) (by kernel_rfl) (by kernel_rfl) (by decide) (by kernel_rfl) (fun _ _ _ h => h) (Or.inl ⟨by rfl, ?_⟩) (by assumption) ?_
    rotate_left
    · (intro w hSw; (try dsimp only at hSw); go_simp; (try with_reducible rfl))
    try simp only [Act.put, List.setIfInBounds_toArray, List.set_cons_zero, List.set_cons_succ]
    have hbv0 : Below w5.heap.size w5 w5.drew := (Below.refl _ _).drew
    have hsv0 : w5.drew.heap.size = w5.heap.size := rfl
    obtain ⟨v0, ev0⟩ : ∃ x, w5.drew = x := ⟨_, rfl⟩
    rw [ev0] at hbv0 hsv0 hHeld ⊢
    clear ev0
    replace hsv0 := Lib.hid hsv0
    refine OrdU.wpAnyU_ready (rs := [2, 7, 12]) (by kernel_rfl) (by simp) ?_
    refine (OrdU.AllReadyU.cons (o := ⟨some 52, _, _, _, _, none⟩) rfl (fun K' hK => ?_) (OrdU.AllReadyU.cons (o := ⟨some 57, _, _, _, _, none⟩) rfl (fun K' hK => ?_) (OrdU.AllReadyU.cons (o := ⟨some 12, _, _, _, _, none⟩) rfl (fun K' hK => ?_) OrdU.AllReadyU.nil)))
    · go_simp
      have hbv1 := hbv0.alloc (hbv0.size) (.cells #[] 3)
      have bEv1 : Blk (v0.alloc (.cells #[] 3)) v0.heap.size 3 #[] := Blk.new v0 _ _
      have hsv1 : (v0.alloc (.cells #[] 3)).heap.size = v0.heap.size + 1 := World.size_alloc _ _
      refine hK.out _ _ (fun _ => HBX.out _ (hb5.trans (hbv1.mono hb5.size))) (fun hHeld => ?_)
      replace hHeld := hHeld (by kernel_rfl)
      clear hK K'
      try simp only [Act.put, List.setIfInBounds_toArray, List.set_cons_zero, List.set_cons_succ]
      obtain ⟨v1, ev1⟩ : ∃ x, v0.alloc (.cells #[] 3) = x := ⟨_, rfl⟩
      rw [ev1] at hbv1 bEv1 hsv1 hHeld ⊢
      clear ev1
      replace hsv1 := Lib.hid hsv1
      refine OrdU.wpAnyU_ready (rs := [5, 7, 12]) (by kernel_rfl) (by simp) ?_
      refine (OrdU.AllReadyU.cons (o := ⟨some 55, _, _, _, _, none⟩) rfl (fun K' hK => ?_) (OrdU.AllReadyU.cons (o := ⟨some 57, _, _, _, _, none⟩) rfl (fun K' hK => ?_) (OrdU.AllReadyU.cons (o := ⟨some 12, _, _, _, _, none⟩) rfl (fun K' hK => ?_) OrdU.AllReadyU.nil)))
      · have hPw := (HP.out.at (hb5.trans (hbv1.mono hb5.size))).ok q1 q2
        refine step_append_lies _ (by rfl) _ _ _ (by rfl) w5.heap.size 3 ig _ 1 8 Try.underlying22 hig hz0 hz1 hz2 rfl (by omega) _ 0 [] (by rfl) (row0 (base := w5.heap.size) bEv1 (show w5.heap.size ≤ v0.heap.size from (by have a0 := hsv0.out; have a1 := hsv1.out; omega))) ad5 vs.length c0 (icells vs) (by rfl) (by simp [icells]) (row_news hPw.vars) (ints_oneCell .i64 vs) hv0 (by simp only [maxLen]; omega) (by omega) (hbv1.size) (v1.heap.size) rfl ?_
        intro g5 cap5 v2 hR5v2 hgrow hat hlt
        rw [Nat.zero_add, List.nil_append] at hR5v2
        have hbv2 := hbv1.grown hgrow (hbv1.size) (fun k e => by cases e; exact (show w5.heap.size ≤ v0.heap.size from (by have a0 := hsv0.out; have a1 := hsv1.out; omega)))
        have hsv2 := Lib.hid (hgrow.size)
        have hg5 := Lib.hid (show g5 = v0.heap.size ∨ g5 = v1.heap.size from by rcases hat with q | q; (exact .inl (Option.some.inj q).symm); exact .inr q)
        have hl5 := Lib.hid (hR5v2.lt _ rfl).2
        have hl6 := Lib.hid (hR5v2.lt _ rfl).1
        clear hgrow hat
        refine hK.out _ _ (fun _ => HBX.out _ (hb5.trans (hbv2.mono hb5.size))) (fun hHeld => ?_)
        replace hHeld := hHeld (by kernel_rfl)
        clear hK K'
        try simp only [Act.put, List.setIfInBounds_toArray, List.set_cons_zero, List.set_cons_succ]
        try simp only [Nat.zero_add]
        refine OrdU.wpAnyU_ready (rs := [7, 12]) (by kernel_rfl) (by simp) ?_
        refine (OrdU.AllReadyU.cons (o := ⟨some 57, _, _, _, _, none⟩) rfl (fun K' hK => ?_) (OrdU.AllReadyU.cons (o := ⟨some 12, _, _, _, _, none⟩) rfl (fun K' hK => ?_) OrdU.AllReadyU.nil))
        · go_simp
          have hbv3 := hbv2.alloc (hbv2.size) (.cells #[.int .i64 t] 3)
          have bCv3 : Blk (v2.alloc (.cells #[.int .i64 t] 3)) v2.heap.size 3 #[.int .i64 t] := Blk.new v2 _ _
          have hsv3 : (v2.alloc (.cells #[.int .i64 t] 3)).heap.size = v2.heap.size + 1 := World.size_alloc _ _
          have hR5v3 := (hR5v2).alloc (.cells #[.int .i64 t] 3)
          refine hK.out _ _ (fun _ => HBX.out _ (hb5.trans (hbv3.mono hb5.size))) (fun hHeld => ?_)
          replace hHeld := hHeld (by kernel_rfl)
          clear hK K'
          try simp only [Act.put, List.setIfInBounds_toArray, List.set_cons_zero, List.set_cons_succ]
          obtain ⟨v3, ev3⟩ : ∃ x, v2.alloc (.cells #[.int .i64 t] 3) = x := ⟨_, rfl⟩
          rw [ev3] at hbv3 bCv3 hsv3 hR5v3 hHeld ⊢
          clear ev3
          replace hsv3 := Lib.hid hsv3
          refine OrdU.wpAnyU_ready (rs := [8, 12]) (by kernel_rfl) (by simp) ?_
          refine (OrdU.AllReadyU.cons (o := ⟨some 58, _, _, _, _, none⟩) rfl (fun K' hK => ?_) (OrdU.AllReadyU.cons (o := ⟨some 12, _, _, _, _, none⟩) rfl (fun K' hK => ?_) OrdU.AllReadyU.nil))
          · refine step_append_lies _ (by rfl) _ _ _ (by rfl) w5.heap.size 3 ig _ 1 8 Try.underlying22 hig hz0 hz1 hz2 rfl (by omega) _ vs.length (icells vs) (by rfl) hR5v3 ⟨v2.heap.size, 0, none⟩ 1 1 [.int .i64 t] (by rfl) (by rfl) (World.news_of_block (cs := #[.int .i64 t]) (t := 3) (fr := (0, 0)) bCv3) (by simp [Value.oneCell']) (by omega) (by simp only [maxLen]; omega) (by omega) (hbv3.size) (v3.heap.size) rfl ?_
            intro g8 cap8 v4 hR8v4 hgrow hat hlt
            have hbv4 := hbv3.grown hgrow (hbv3.size) (fun k e => ((hR5v3).lt k e).1)
            have hsv4 := Lib.hid (hgrow.size)
            have hg8 := Lib.hid (show g8 = g5 ∨ g8 = v3.heap.size from by rcases hat with q | q; (exact .inl (Option.some.inj q).symm); exact .inr q)
            have hl8 := Lib.hid (hR8v4.lt _ rfl).2
            clear hgrow hat
            refine hK.out _ _ (fun _ => HBX.out _ (hb5.trans (hbv4.mono hb5.size))) (fun hHeld => ?_)
            replace hHeld := hHeld (by kernel_rfl)
            clear hK K'
            try simp only [Act.put, List.setIfInBounds_toArray, List.set_cons_zero, List.set_cons_succ]
            refine OrdU.wpAnyU_take (i := 11) (oi := ⟨some 61, _, _, _, _, none⟩) (v := ?_) rfl (by kernel_rfl) (by kernel_rfl) (by kernel_rfl) (by decide) (by kernel_rfl) (fun _ _ _ h => h) (Or.inl ⟨by rfl, ?_⟩) (by assumption) ?_
            rotate_left
            · (intro w hSw; (try dsimp only at hSw); go_simp; (try with_reducible rfl))
            try simp only [Act.put, List.setIfInBounds_toArray, List.set_cons_zero, List.set_cons_succ]
            refine OrdU.wpAnyU_ready (rs := [12]) (by kernel_rfl) (by simp) ?_
            refine (OrdU.AllReadyU.cons (o := ⟨some 12, _, _, _, _, none⟩) rfl (fun K' hK => ?_) OrdU.AllReadyU.nil)
            go_simp
            have hbv5 := hbv4.alloc (hbv4.size) (.cells #[.int .i64 0, .slice none 0 0, .slice none 0 0] 25)
            have bDv5 : Blk (v4.alloc (.cells #[.int .i64 0, .slice none 0 0, .slice none 0 0] 25)) v4.heap.size 25 #[.int .i64 0, .slice none 0 0, .slice none 0 0] := Blk.new v4 _ _
            have hsv5 : (v4.alloc (.cells #[.int .i64 0, .slice none 0 0, .slice none 0 0] 25)).heap.size = v4.heap.size + 1 := World.size_alloc _ _
            have hR8v5 := (hR8v4).alloc (.cells #[.int .i64 0, .slice none 0 0, .slice none 0 0] 25)
            refine hK.out _ _ (fun _ => HBX.out _ (hb5.trans (hbv5.mono hb5.size))) (fun hHeld => ?_)
            replace hHeld := hHeld (by kernel_rfl)
            clear hK K'
            try simp only [Act.put, List.setIfInBounds_toArray, List.set_cons_zero, List.set_cons_succ]
            obtain ⟨v5, ev5⟩ : ∃ x, v4.alloc (.cells #[.int .i64 0, .slice none 0 0, .slice none 0 0] 25) = x := ⟨_, rfl⟩
            rw [ev5] at hbv5 bDv5 hsv5 hR8v5 hHeld ⊢
            clear ev5
            replace hsv5 := Lib.hid hsv5
            refine OrdU.wpAnyU_ready (rs := [13]) (by kernel_rfl) (by simp) ?_
            refine (OrdU.AllReadyU.cons (o := ⟨none, _, _, _, _, none⟩) rfl (fun K' hK => ?_) OrdU.AllReadyU.nil)
            obtain ⟨z0, z1, z2⟩ := (bDv5).three
            have f0 := (bDv5).frozen 0
            have f1 := (bDv5).frozen 1
            have f2 := (bDv5).frozen 2
            go_simp
            have hgD := (show w5.heap.size ≤ v4.heap.size from (by have a0 := hsv0.out; have a1 := hsv1.out; have a2 := hsv2.out; have a3 := hg5.out; have a4 := hl5.out; have a5 := hl6.out; have a6 := hsv3.out; have a7 := hsv4.out; have a8 := hg8.out; have a9 := hl8.out; have a10 := hsv5.out; omega))
            have bN : Blk (((v5.setCell ⟨v4.heap.size, 0, none⟩ (.int .i64 ps)).setCell ⟨v4.heap.size, 1, none⟩ (.slice (some ⟨g8, 0, none⟩) (vs.length + 1) cap8)).setCell ⟨v4.heap.size, 2, none⟩ (.slice B xs.length ce)) v4.heap.size 25 #[.int .i64 ps, .slice (some ⟨g8, 0, none⟩) (vs.length + 1) cap8, .slice B xs.length ce] := (((bDv5).set 0 (.int .i64 ps)).set 1 (.slice (some ⟨g8, 0, none⟩) (vs.length + 1) cap8)).set 2 (.slice B xs.length ce)
            have hbN := ((hbv5.setCell (p := ⟨v4.heap.size, 0, none⟩) hgD (.int .i64 ps)).setCell (p := ⟨v4.heap.size, 1, none⟩) hgD (.slice (some ⟨g8, 0, none⟩) (vs.length + 1) cap8)).setCell (p := ⟨v4.heap.size, 2, none⟩) hgD (.slice B xs.length ce)
            have hIN : IRow (((v5.setCell ⟨v4.heap.size, 0, none⟩ (.int .i64 ps)).setCell ⟨v4.heap.size, 1, none⟩ (.slice (some ⟨g8, 0, none⟩) (vs.length + 1) cap8)).setCell ⟨v4.heap.size, 2, none⟩ (.slice B xs.length ce)) (((v5.setCell ⟨v4.heap.size, 0, none⟩ (.int .i64 ps)).setCell ⟨v4.heap.size, 1, none⟩ (.slice (some ⟨g8, 0, none⟩) (vs.length + 1) cap8)).setCell ⟨v4.heap.size, 2, none⟩ (.slice B xs.length ce)).heap.size (some ⟨g8, 0, none⟩) (vs ++ [t]) := row_far3 (row_ints (icells_snoc vs t ▸ hR8v5)) (show g8 ≠ v4.heap.size from (by have a0 := hsv0.out; have a1 := hsv1.out; have a2 := hsv2.out; have a3 := hg5.out; have a4 := hl5.out; have a5 := hl6.out; have a6 := hsv3.out; have a7 := hsv4.out; have a8 := hg8.out; have a9 := hl8.out; have a10 := hsv5.out; omega)) _ _ _
            have hcp := own_cap2 hR8v5
            clear z0 z1 z2 f0 f1 f2
            refine hK.out _ _ (OrdU.no (by kernel_rfl)) (fun _ => ?_)
            clear hK K'
            try simp only [Act.put, List.setIfInBounds_toArray, List.set_cons_zero, List.set_cons_succ]
            refine OrdU.wpAnyU_done (by kernel_rfl) ?_ _
            go_wp2_with fail
            go_meet
            exact ⟨_, g8, cap8, rfl, hbN, hgD, bN, hIN, hcp⟩
          · go_simp
            have hbv7 := hbv3.alloc (hbv3.size) (.cells #[.int .i64 0, .slice none 0 0, .slice none 0 0] 25)
            have bDv7 : Blk (v3.alloc (.cells #[.int .i64 0, .slice none 0 0, .slice none 0 0] 25)) v3.heap.size 25 #[.int .i64 0, .slice none 0 0, .slice none 0 0] := Blk.new v3 _ _
            have hsv7 : (v3.alloc (.cells #[.int .i64 0, .slice none 0 0, .slice none 0 0] 25)).heap.size = v3.heap.size + 1 := World.size_alloc _ _
            have bCv7 := (bCv3).alloc (.cells #[.int .i64 0, .slice none 0 0, .slice none 0 0] 25)
            have hR5v7 := (hR5v3).alloc (.cells #[.int .i64 0, .slice none 0 0, .slice none 0 0] 25)
            refine hK.out _ _ (fun _ => HBX.out _ (hb5.trans (hbv7.mono hb5.size))) (fun hHeld => ?_)
            replace hHeld := hHeld (by kernel_rfl)
            clear hK K'
            try simp only [Act.put, List.setIfInBounds_toArray, List.set_cons_zero, List.set_cons_succ]
            obtain ⟨v7, ev7⟩ : ∃ x, v3.alloc (.cells #[.int .i64 0, .slice none 0 0, .slice none 0 0] 25) = x := ⟨_, rfl⟩
            rw [ev7] at hbv7 bDv7 hsv7 bCv7 hR5v7 hHeld ⊢
            clear ev7
            replace hsv7 := Lib.hid hsv7
            refine OrdU.wpAnyU_ready (rs := [8]) (by kernel_rfl) (by simp) ?_
            refine (OrdU.AllReadyU.cons (o := ⟨some 58, _, _, _, _, none⟩) rfl (fun K' hK => ?_) OrdU.AllReadyU.nil)
            refine step_append_lies _ (by rfl) _ _ _ (by rfl) w5.heap.size 3 ig _ 1 8 Try.underlying22 hig hz0 hz1 hz2 rfl (by omega) _ vs.length (icells vs) (by rfl) hR5v7 ⟨v2.heap.size, 0, none⟩ 1 1 [.int .i64 t] (by rfl) (by rfl) (World.news_of_block (cs := #[.int .i64 t]) (t := 3) (fr := (0, 0)) bCv7) (by simp [Value.oneCell']) (by omega) (by simp only [maxLen]; omega) (by omega) (hbv7.size) (v7.heap.size) rfl ?_
            intro g8 cap8 v8 hR8v8 hgrow hat hlt
            have hbv8 := hbv7.grown hgrow (hbv7.size) (fun k e => ((hR5v7).lt k e).1)
            have hsv8 := Lib.hid (hgrow.size)
            have hg8 := Lib.hid (show g8 = g5 ∨ g8 = v7.heap.size from by rcases hat with q | q; (exact .inl (Option.some.inj q).symm); exact .inr q)
            have hl8 := Lib.hid (hR8v8.lt _ rfl).2
            have bDv8 := (bDv7).grown hgrow (fun hq => absurd (show v3.heap.size = g5 from Option.some.inj hq) (by have a0 := hsv0.out; have a1 := hsv1.out; have a2 := hsv2.out; have a3 := hg5.out; have a4 := hl5.out; have a5 := hl6.out; have a6 := hsv3.out; have a7 := hsv7.out; omega))
            clear hgrow hat
            refine hK.out _ _ (fun _ => HBX.out _ (hb5.trans (hbv8.mono hb5.size))) (fun hHeld => ?_)
            replace hHeld := hHeld (by kernel_rfl)
            clear hK K'
            try simp only [Act.put, List.setIfInBounds_toArray, List.set_cons_zero, List.set_cons_succ]
            refine OrdU.wpAnyU_take (i := 11) (oi := ⟨some 61, _, _, _, _, none⟩) (v := ?_) rfl (by kernel_rfl) (by kernel_rfl) (by kernel_rfl) (by decide) (by kernel_rfl) (fun _ _ _ h => h) (Or.inl ⟨by rfl, ?_⟩) (by assumption) ?_
            rotate_left
            · (intro w hSw; (try dsimp only at hSw); go_simp; (try with_reducible rfl))
            try simp only [Act.put, List.setIfInBounds_toArray, List.set_cons_zero, List.set_cons_succ]
            refine OrdU.wpAnyU_ready (rs := [13]) (by kernel_rfl) (by simp) ?_
            refine (OrdU.AllReadyU.cons (o := ⟨none, _, _, _, _, none⟩) rfl (fun K' hK => ?_) OrdU.AllReadyU.nil)
            obtain ⟨z0, z1, z2⟩ := (bDv8).three
            have f0 := (bDv8).frozen 0
            have f1 := (bDv8).frozen 1
            have f2 := (bDv8).frozen 2
            go_simp
            have hgD := (show w5.heap.size ≤ v3.heap.size from (by have a0 := hsv0.out; have a1 := hsv1.out; have a2 := hsv2.out; have a3 := hg5.out; have a4 := hl5.out; have a5 := hl6.out; have a6 := hsv3.out; have a7 := hsv7.out; have a8 := hsv8.out; have a9 := hg8.out; have a10 := hl8.out; omega))
            have bN : Blk (((v8.setCell ⟨v3.heap.size, 0, none⟩ (.int .i64 ps)).setCell ⟨v3.heap.size, 1, none⟩ (.slice (some ⟨g8, 0, none⟩) (vs.length + 1) cap8)).setCell ⟨v3.heap.size, 2, none⟩ (.slice B xs.length ce)) v3.heap.size 25 #[.int .i64 ps, .slice (some ⟨g8, 0, none⟩) (vs.length + 1) cap8, .slice B xs.length ce] := (((bDv8).set 0 (.int .i64 ps)).set 1 (.slice (some ⟨g8, 0, none⟩) (vs.length + 1) cap8)).set 2 (.slice B xs.length ce)
            have hbN := ((hbv8.setCell (p := ⟨v3.heap.size, 0, none⟩) hgD (.int .i64 ps)).setCell (p := ⟨v3.heap.size, 1, none⟩) hgD (.slice (some ⟨g8, 0, none⟩) (vs.length + 1) cap8)).setCell (p := ⟨v3.heap.size, 2, none⟩) hgD (.slice B xs.length ce)
            have hIN : IRow (((v8.setCell ⟨v3.heap.size, 0, none⟩ (.int .i64 ps)).setCell ⟨v3.heap.size, 1, none⟩ (.slice (some ⟨g8, 0, none⟩) (vs.length + 1) cap8)).setCell ⟨v3.heap.size, 2, none⟩ (.slice B xs.length ce)) (((v8.setCell ⟨v3.heap.size, 0, none⟩ (.int .i64 ps)).setCell ⟨v3.heap.size, 1, none⟩ (.slice (some ⟨g8, 0, none⟩) (vs.length + 1) cap8)).setCell ⟨v3.heap.size, 2, none⟩ (.slice B xs.length ce)).heap.size (some ⟨g8, 0, none⟩) (vs ++ [t]) := row_far3 (row_ints (icells_snoc vs t ▸ hR8v8)) (show g8 ≠ v3.heap.size from (by have a0 := hsv0.out; have a1 := hsv1.out; have a2 := hsv2.out; have a3 := hg5.out; have a4 := hl5.out; have a5 := hl6.out; have a6 := hsv3.out; have a7 := hsv7.out; have a8 := hsv8.out; have a9 := hg8.out; have a10 := hl8.out; omega)) _ _ _
            have hcp := own_cap2 hR8v8
            clear z0 z1 z2 f0 f1 f2
            refine hK.out _ _ (OrdU.no (by kernel_rfl)) (fun _ => ?_)
            clear hK K'
            try simp only [Act.put, List.setIfInBounds_toArray, List.set_cons_zero, List.set_cons_succ]
            refine OrdU.wpAnyU_done (by kernel_rfl) ?_ _
            go_wp2_with fail
            go_meet
            exact ⟨_, g8, cap8, rfl, hbN, hgD, bN, hIN, hcp⟩
        · go_simp
          have hbv10 := hbv2.alloc (hbv2.size) (.cells #[.int .i64 0, .slice none 0 0, .slice none 0 0] 25)
          have bDv10 : Blk (v2.alloc (.cells #[.int .i64 0, .slice none 0 0, .slice none 0 0] 25)) v2.heap.size 25 #[.int .i64 0, .slice none 0 0, .slice none 0 0] := Blk.new v2 _ _
          have hsv10 : (v2.alloc (.cells #[.int .i64 0, .slice none 0 0, .slice none 0 0] 25)).heap.size = v2.heap.size + 1 := World.size_alloc _ _
          have hR5v10 := (hR5v2).alloc (.cells #[.int .i64 0, .slice none 0 0, .slice none 0 0] 25)
          refine hK.out _ _ (fun _ => HBX.out _ (hb5.trans (hbv10.mono hb5.size))) (fun hHeld => ?_)
          replace hHeld := hHeld (by kernel_rfl)
          clear hK K'
          try simp only [Act.put, List.setIfInBounds_toArray, List.set_cons_zero, List.set_cons_succ]
          obtain ⟨v10, ev10⟩ : ∃ x, v2.alloc (.cells #[.int .i64 0, .slice none 0 0, .slice none 0 0] 25) = x := ⟨_, rfl⟩
          rw [ev10] at hbv10 bDv10 hsv10 hR5v10 hHeld ⊢
          clear ev10
          replace hsv10 := Lib.hid hsv10
          refine OrdU.wpAnyU_ready (rs := [7]) (by kernel_rfl) (by simp) ?_
          refine (OrdU.AllReadyU.cons (o := ⟨some 57, _, _, _, _, none⟩) rfl (fun K' hK => ?_) OrdU.AllReadyU.nil)
          go_simp
          have hbv11 := hbv10.alloc (hbv10.size) (.cells #[.int .i64 t] 3)
          have bCv11 : Blk (v10.alloc (.cells #[.int .i64 t] 3)) v10.heap.size 3 #[.int .i64 t] := Blk.new v10 _ _
          have hsv11 : (v10.alloc (.cells #[.int .i64 t] 3)).heap.size = v10.heap.size + 1 := World.size_alloc _ _
          have bDv11 := (bDv10).alloc (.cells #[.int .i64 t] 3)
          have hR5v11 := (hR5v10).alloc (.cells #[.int .i64 t] 3)
          refine hK.out _ _ (fun _ => HBX.out _ (hb5.trans (hbv11.mono hb5.size))) (fun hHeld => ?_)
          replace hHeld := hHeld (by kernel_rfl)
          clear hK K'
          try simp only [Act.put, List.setIfInBounds_toArray, List.set_cons_zero, List.set_cons_succ]
          obtain ⟨v11, ev11⟩ : ∃ x, v10.alloc (.cells #[.int .i64 t] 3) = x := ⟨_, rfl⟩
          rw [ev11] at hbv11 bCv11 hsv11 bDv11 hR5v11 hHeld ⊢
          clear ev11
          replace hsv11 := Lib.hid hsv11
          refine OrdU.wpAnyU_ready (rs := [8]) (by kernel_rfl) (by simp) ?_
          refine (OrdU.AllReadyU.cons (o := ⟨some 58, _, _, _, _, none⟩) rfl (fun K' hK => ?_) OrdU.AllReadyU.nil)
          refine step_append_lies _ (by rfl) _ _ _ (by rfl) w5.heap.size 3 ig _ 1 8 Try.underlying22 hig hz0 hz1 hz2 rfl (by omega) _ vs.length (icells vs) (by rfl) hR5v11 ⟨v10.heap.size, 0, none⟩ 1 1 [.int .i64 t] (by rfl) (by rfl) (World.news_of_block (cs := #[.int .i64 t]) (t := 3) (fr := (0, 0)) bCv11) (by simp [Value.oneCell']) (by omega) (by simp only [maxLen]; omega) (by omega) (hbv11.size) (v11.heap.size) rfl ?_
          intro g8 cap8 v12 hR8v12 hgrow hat hlt
          have hbv12 := hbv11.grown hgrow (hbv11.size) (fun k e => ((hR5v11).lt k e).1)
          have hsv12 := Lib.hid (hgrow.size)
          have hg8 := Lib.hid (show g8 = g5 ∨ g8 = v11.heap.size from by rcases hat with q | q; (exact .inl (Option.some.inj q).symm); exact .inr q)
          have hl8 := Lib.hid (hR8v12.lt _ rfl).2
          have bDv12 := (bDv11).grown hgrow (fun hq => absurd (show v2.heap.size = g5 from Option.some.inj hq) (by have a0 := hsv0.out; have a1 := hsv1.out; have a2 := hsv2.out; have a3 := hg5.out; have a4 := hl5.out; have a5 := hl6.out; have a6 := hsv10.out; have a7 := hsv11.out; omega))
          clear hgrow hat
          refine hK.out _ _ (fun _ => HBX.out _ (hb5.trans (hbv12.mono hb5.size))) (fun hHeld => ?_)
          replace hHeld := hHeld (by kernel_rfl)
          clear hK K'
          try simp only [Act.put, List.setIfInBounds_toArray, List.set_cons_zero, List.set_cons_succ]
          refine OrdU.wpAnyU_take (i := 11) (oi := ⟨some 61, _, _, _, _, none⟩) (v := ?_) rfl (by kernel_rfl) (by kernel_rfl) (by kernel_rfl) (by decide) (by kernel_rfl) (fun _ _ _ h => h) (Or.inl ⟨by rfl, ?_⟩) (by assumption) ?_
          rotate_left
          · (intro w hSw; (try dsimp only at hSw); go_simp; (try with_reducible rfl))
          try simp only [Act.put, List.setIfInBounds_toArray, List.set_cons_zero, List.set_cons_succ]
          refine OrdU.wpAnyU_ready (rs := [13]) (by kernel_rfl) (by simp) ?_
          refine (OrdU.AllReadyU.cons (o := ⟨none, _, _, _, _, none⟩) rfl (fun K' hK => ?_) OrdU.AllReadyU.nil)
          obtain ⟨z0, z1, z2⟩ := (bDv12).three
          have f0 := (bDv12).frozen 0
          have f1 := (bDv12).frozen 1
          have f2 := (bDv12).frozen 2
          go_simp
          have hgD := (show w5.heap.size ≤ v2.heap.size from (by have a0 := hsv0.out; have a1 := hsv1.out; have a2 := hsv2.out; have a3 := hg5.out; have a4 := hl5.out; have a5 := hl6.out; have a6 := hsv10.out; have a7 := hsv11.out; have a8 := hsv12.out; have a9 := hg8.out; have a10 := hl8.out; omega))
          have bN : Blk (((v12.setCell ⟨v2.heap.size, 0, none⟩ (.int .i64 ps)).setCell ⟨v2.heap.size, 1, none⟩ (.slice (some ⟨g8, 0, none⟩) (vs.length + 1) cap8)).setCell ⟨v2.heap.size, 2, none⟩ (.slice B xs.length ce)) v2.heap.size 25 #[.int .i64 ps, .slice (some ⟨g8, 0, none⟩) (vs.length + 1) cap8, .slice B xs.length ce] := (((bDv12).set 0 (.int .i64 ps)).set 1 (.slice (some ⟨g8, 0, none⟩) (vs.length + 1) cap8)).set 2 (.slice B xs.length ce)
          have hbN := ((hbv12.setCell (p := ⟨v2.heap.size, 0, none⟩) hgD (.int .i64 ps)).setCell (p := ⟨v2.heap.size, 1, none⟩) hgD (.slice (some ⟨g8, 0, none⟩) (vs.length + 1) cap8)).setCell (p := ⟨v2.heap.size, 2, none⟩) hgD (.slice B xs.length ce)
          have hIN : IRow (((v12.setCell ⟨v2.heap.size, 0, none⟩ (.int .i64 ps)).setCell ⟨v2.heap.size, 1, none⟩ (.slice (some ⟨g8, 0, none⟩) (vs.length + 1) cap8)).setCell ⟨v2.heap.size, 2, none⟩ (.slice B xs.length ce)) (((v12.setCell ⟨v2.heap.size, 0, none⟩ (.int .i64 ps)).setCell ⟨v2.heap.size, 1, none⟩ (.slice (some ⟨g8, 0, none⟩) (vs.length + 1) cap8)).setCell ⟨v2.heap.size, 2, none⟩ (.slice B xs.length ce)).heap.size (some ⟨g8, 0, none⟩) (vs ++ [t]) := row_far3 (row_ints (icells_snoc vs t ▸ hR8v12)) (show g8 ≠ v2.heap.size from (by have a0 := hsv0.out; have a1 := hsv1.out; have a2 := hsv2.out; have a3 := hg5.out; have a4 := hl5.out; have a5 := hl6.out; have a6 := hsv10.out; have a7 := hsv11.out; have a8 := hsv12.out; have a9 := hg8.out; have a10 := hl8.out; omega)) _ _ _
          have hcp := own_cap2 hR8v12
          clear z0 z1 z2 f0 f1 f2
          refine hK.out _ _ (OrdU.no (by kernel_rfl)) (fun _ => ?_)
          clear hK K'
          try simp only [Act.put, List.setIfInBounds_toArray, List.set_cons_zero, List.set_cons_succ]
          refine OrdU.wpAnyU_done (by kernel_rfl) ?_ _
          go_wp2_with fail
          go_meet
          exact ⟨_, g8, cap8, rfl, hbN, hgD, bN, hIN, hcp⟩
      · go_simp
        have hbv14 := hbv1.alloc (hbv1.size) (.cells #[.int .i64 t] 3)
        have bCv14 : Blk (v1.alloc (.cells #[.int .i64 t] 3)) v1.heap.size 3 #[.int .i64 t] := Blk.new v1 _ _
        have hsv14 : (v1.alloc (.cells #[.int .i64 t] 3)).heap.size = v1.heap.size + 1 := World.size_alloc _ _
        have bEv14 := (bEv1).alloc (.cells #[.int .i64 t] 3)
        refine hK.out _ _ (fun _ => HBX.out _ (hb5.trans (hbv14.mono hb5.size))) (fun hHeld => ?_)
        replace hHeld := hHeld (by kernel_rfl)
        clear hK K'
        try simp only [Act.put, List.setIfInBounds_toArray, List.set_cons_zero, List.set_cons_succ]
        obtain ⟨v14, ev14⟩ : ∃ x, v1.alloc (.cells #[.int .i64 t] 3) = x := ⟨_, rfl⟩
        rw [ev14] at hbv14 bCv14 hsv14 bEv14 hHeld ⊢
        clear ev14
        replace hsv14 := Lib.hid hsv14
        refine OrdU.wpAnyU_ready (rs := [5, 12]) (by kernel_rfl) (by simp) ?_
        refine (OrdU.AllReadyU.cons (o := ⟨some 55, _, _, _, _, none⟩) rfl (fun K' hK => ?_) (OrdU.AllReadyU.cons (o := ⟨some 12, _, _, _, _, none⟩) rfl (fun K' hK => ?_) OrdU.AllReadyU.nil))
        · have hPw := (HP.out.at (hb5.trans (hbv14.mono hb5.size))).ok q1 q2
          refine step_append_lies _ (by rfl) _ _ _ (by rfl) w5.heap.size 3 ig _ 1 8 Try.underlying22 hig hz0 hz1 hz2 rfl (by omega) _ 0 [] (by rfl) (row0 (base := w5.heap.size) bEv14 (show w5.heap.size ≤ v0.heap.size from (by have a0 := hsv0.out; have a1 := hsv1.out; have a2 := hsv14.out; omega))) ad5 vs.length c0 (icells vs) (by rfl) (by simp [icells]) (row_news hPw.vars) (ints_oneCell .i64 vs) hv0 (by simp only [maxLen]; omega) (by omega) (hbv14.size) (v14.heap.size) rfl ?_
          intro g5 cap5 v15 hR5v15 hgrow hat hlt
          rw [Nat.zero_add, List.nil_append] at hR5v15
          have hbv15 := hbv14.grown hgrow (hbv14.size) (fun k e => by cases e; exact (show w5.heap.size ≤ v0.heap.size from (by have a0 := hsv0.out; have a1 := hsv1.out; have a2 := hsv14.out; omega)))
          have hsv15 := Lib.hid (hgrow.size)
          have hg5 := Lib.hid (show g5 = v0.heap.size ∨ g5 = v14.heap.size from by rcases hat with q | q; (exact .inl (Option.some.inj q).symm); exact .inr q)
          have hl5 := Lib.hid (hR5v15.lt _ rfl).2
          have hl6 := Lib.hid (hR5v15.lt _ rfl).1
          have bCv15 := (bCv14).grown hgrow (fun hq => absurd (show v1.heap.size = v0.heap.size from Option.some.inj hq) (by have a0 := hsv0.out; have a1 := hsv1.out; have a2 := hsv14.out; omega))
          clear hgrow hat
          refine hK.out _ _ (fun _ => HBX.out _ (hb5.trans (hbv15.mono hb5.size))) (fun hHeld => ?_)
          replace hHeld := hHeld (by kernel_rfl)
          clear hK K'
          try simp only [Act.put, List.setIfInBounds_toArray, List.set_cons_zero, List.set_cons_succ]
          try simp only [Nat.zero_add]
          refine OrdU.wpAnyU_ready (rs := [8, 12]) (by kernel_rfl) (by simp) ?_
          refine (OrdU.AllReadyU.cons (o := ⟨some 58, _, _, _, _, none⟩) rfl (fun K' hK => ?_) (OrdU.AllReadyU.cons (o := ⟨some 12, _, _, _, _, none⟩) rfl (fun K' hK => ?_) OrdU.AllReadyU.nil))
          · refine step_append_lies _ (by rfl) _ _ _ (by rfl) w5.heap.size 3 ig _ 1 8 Try.underlying22 hig hz0 hz1 hz2 rfl (by omega) _ vs.length (icells vs) (by rfl) hR5v15 ⟨v1.heap.size, 0, none⟩ 1 1 [.int .i64 t] (by rfl) (by rfl) (World.news_of_block (cs := #[.int .i64 t]) (t := 3) (fr := (0, 0)) bCv15) (by simp [Value.oneCell']) (by omega) (by simp only [maxLen]; omega) (by omega) (hbv15.size) (v15.heap.size) rfl ?_
            intro g8 cap8 v16 hR8v16 hgrow hat hlt
            have hbv16 := hbv15.grown hgrow (hbv15.size) (fun k e => ((hR5v15).lt k e).1)
            have hsv16 := Lib.hid (hgrow.size)
            have hg8 := Lib.hid (show g8 = g5 ∨ g8 = v15.heap.size from by rcases hat with q | q; (exact .inl (Option.some.inj q).symm); exact .inr q)
            have hl8 := Lib.hid (hR8v16.lt _ rfl).2
            clear hgrow hat
            refine hK.out _ _ (fun _ => HBX.out _ (hb5.trans (hbv16.mono hb5.size))) (fun hHeld => ?_)
            replace hHeld := hHeld (by kernel_rfl)
            clear hK K'
            try simp only [Act.put, List.setIfInBounds_toArray, List.set_cons_zero, List.set_cons_succ]
            refine OrdU.wpAnyU_take (i := 11) (oi := ⟨some 61, _, _, _, _, none⟩) (v := ?_) rfl (by kernel_rfl) (by kernel_rfl) (by kernel_rfl) (by decide) (by kernel_rfl) (fun _ _ _ h => h) (Or.inl ⟨by rfl, ?_⟩) (by assumption) ?_
            rotate_left
            · (intro w hSw; (try dsimp only at hSw); go_simp; (try with_reducible rfl))
            try simp only [Act.put, List.setIfInBounds_toArray, List.set_cons_zero, List.set_cons_succ]
            refine OrdU.wpAnyU_ready (rs := [12]) (by kernel_rfl) (by simp) ?_
            refine (OrdU.AllReadyU.cons (o := ⟨some 12, _, _, _, _, none⟩) rfl (fun K' hK => ?_) OrdU.AllReadyU.nil)
            go_simp
            have hbv17 := hbv16.alloc (hbv16.size) (.cells #[.int .i64 0, .slice none 0 0, .slice none 0 0] 25)
            have bDv17 : Blk (v16.alloc (.cells #[.int .i64 0, .slice none 0 0, .slice none 0 0] 25)) v16.heap.size 25 #[.int .i64 0, .slice none 0 0, .slice none 0 0] := Blk.new v16 _ _
            have hsv17 : (v16.alloc (.cells #[.int .i64 0, .slice none 0 0, .slice none 0 0] 25)).heap.size = v16.heap.size + 1 := World.size_alloc _ _
            have hR8v17 := (hR8v16).alloc (.cells #[.int .i64 0, .slice none 0 0, .slice none 0 0] 25)
            refine hK.out _ _ (fun _ => HBX.out _ (hb5.trans (hbv17.mono hb5.size))) (fun hHeld => ?_)
            replace hHeld := hHeld (by kernel_rfl)
            clear hK K'
            try simp only [Act.put, List.setIfInBounds_toArray, List.set_cons_zero, List.set_cons_succ]
            obtain ⟨v17, ev17⟩ : ∃ x, v16.alloc (.cells #[.int .i64 0, .slice none 0 0, .slice none 0 0] 25) = x := ⟨_, rfl⟩
            rw [ev17] at hbv17 bDv17 hsv17 hR8v17 hHeld ⊢
            clear ev17
            replace hsv17 := Lib.hid hsv17
            refine OrdU.wpAnyU_ready (rs := [13]) (by kernel_rfl) (by simp) ?_
            refine (OrdU.AllReadyU.cons (o := ⟨none, _, _, _, _, none⟩) rfl (fun K' hK => ?_) OrdU.AllReadyU.nil)
            obtain ⟨z0, z1, z2⟩ := (bDv17).three
            have f0 := (bDv17).frozen 0
            have f1 := (bDv17).frozen 1
            have f2 := (bDv17).frozen 2
            go_simp
            have hgD := (show w5.heap.size ≤ v16.heap.size from (by have a0 := hsv0.out; have a1 := hsv1.out; have a2 := hsv14.out; have a3 := hsv15.out; have a4 := hg5.out; have a5 := hl5.out; have a6 := hl6.out; have a7 := hsv16.out; have a8 := hg8.out; have a9 := hl8.out; have a10 := hsv17.out; omega))
            have bN : Blk (((v17.setCell ⟨v16.heap.size, 0, none⟩ (.int .i64 ps)).setCell ⟨v16.heap.size, 1, none⟩ (.slice (some ⟨g8, 0, none⟩) (vs.length + 1) cap8)).setCell ⟨v16.heap.size, 2, none⟩ (.slice B xs.length ce)) v16.heap.size 25 #[.int .i64 ps, .slice (some ⟨g8, 0, none⟩) (vs.length + 1) cap8, .slice B xs.length ce] := (((bDv17).set 0 (.int .i64 ps)).set 1 (.slice (some ⟨g8, 0, none⟩) (vs.length + 1) cap8)).set 2 (.slice B xs.length ce)
            have hbN := ((hbv17.setCell (p := ⟨v16.heap.size, 0, none⟩) hgD (.int .i64 ps)).setCell (p := ⟨v16.heap.size, 1, none⟩) hgD (.slice (some ⟨g8, 0, none⟩) (vs.length + 1) cap8)).setCell (p := ⟨v16.heap.size, 2, none⟩) hgD (.slice B xs.length ce)
            have hIN : IRow (((v17.setCell ⟨v16.heap.size, 0, none⟩ (.int .i64 ps)).setCell ⟨v16.heap.size, 1, none⟩ (.slice (some ⟨g8, 0, none⟩) (vs.length + 1) cap8)).setCell ⟨v16.heap.size, 2, none⟩ (.slice B xs.length ce)) (((v17.setCell ⟨v16.heap.size, 0, none⟩ (.int .i64 ps)).setCell ⟨v16.heap.size, 1, none⟩ (.slice (some ⟨g8, 0, none⟩) (vs.length + 1) cap8)).setCell ⟨v16.heap.size, 2, none⟩ (.slice B xs.length ce)).heap.size (some ⟨g8, 0, none⟩) (vs ++ [t]) := row_far3 (row_ints (icells_snoc vs t ▸ hR8v17)) (show g8 ≠ v16.heap.size from (by have a0 := hsv0.out; have a1 := hsv1.out; have a2 := hsv14.out; have a3 := hsv15.out; have a4 := hg5.out; have a5 := hl5.out; have a6 := hl6.out; have a7 := hsv16.out; have a8 := hg8.out; have a9 := hl8.out; have a10 := hsv17.out; omega)) _ _ _
            have hcp := own_cap2 hR8v17
            clear z0 z1 z2 f0 f1 f2
            refine hK.out _ _ (OrdU.no (by kernel_rfl)) (fun _ => ?_)
            clear hK K'
            try simp only [Act.put, List.setIfInBounds_toArray, List.set_cons_zero, List.set_cons_succ]
            refine OrdU.wpAnyU_done (by kernel_rfl) ?_ _
            go_wp2_with fail
            go_meet
            exact ⟨_, g8, cap8, rfl, hbN, hgD, bN, hIN, hcp⟩
          · go_simp
            have hbv19 := hbv15.alloc (hbv15.size) (.cells #[.int .i64 0, .slice none 0 0, .slice none 0 0] 25)
            have bDv19 : Blk (v15.alloc (.cells #[.int .i64 0, .slice none 0 0, .slice none 0 0] 25)) v15.heap.size 25 #[.int .i64 0, .slice none 0 0, .slice none 0 0] := Blk.new v15 _ _
            have hsv19 : (v15.alloc (.cells #[.int .i64 0, .slice none 0 0, .slice none 0 0] 25)).heap.size = v15.heap.size + 1 := World.size_alloc _ _
            have bCv19 := (bCv15).alloc (.cells #[.int .i64 0, .slice none 0 0, .slice none 0 0] 25)
            have hR5v19 := (hR5v15).alloc (.cells #[.int .i64 0, .slice none 0 0, .slice none 0 0] 25)
            refine hK.out _ _ (fun _ => HBX.out _ (hb5.trans (hbv19.mono hb5.size))) (fun hHeld => ?_)
            replace hHeld := hHeld (by kernel_rfl)
            clear hK K'
            try simp only [Act.put, List.setIfInBounds_toArray, List.set_cons_zero, List.set_cons_succ]
            obtain ⟨v19, ev19⟩ : ∃ x, v15.alloc (.cells #[.int .i64 0, .slice none 0 0, .slice none 0 0] 25) = x := ⟨_, rfl⟩
            rw [ev19] at hbv19 bDv19 hsv19 bCv19 hR5v19 hHeld ⊢
            clear ev19
            replace hsv19 := Lib.hid hsv19
            refine OrdU.wpAnyU_ready (rs := [8]) (by kernel_rfl) (by simp) ?_
            refine (OrdU.AllReadyU.cons (o := ⟨some 58, _, _, _, _, none⟩) rfl (fun K' hK => ?_) OrdU.AllReadyU.nil)
            refine step_append_lies _ (by rfl) _ _ _ (by rfl) w5.heap.size 3 ig _ 1 8 Try.underlying22 hig hz0 hz1 hz2 rfl (by omega) _ vs.length (icells vs) (by rfl) hR5v19 ⟨v1.heap.size, 0, none⟩ 1 1 [.int .i64 t] (by rfl) (by rfl) (World.news_of_block (cs := #[.int .i64 t]) (t := 3) (fr := (0, 0)) bCv19) (by simp [Value.oneCell']) (by omega) (by simp only [maxLen]; omega) (by omega) (hbv19.size) (v19.heap.size) rfl ?_
            intro g8 cap8 v20 hR8v20 hgrow hat hlt
            have hbv20 := hbv19.grown hgrow (hbv19.size) (fun k e => ((hR5v19).lt k e).1)
            have hsv20 := Lib.hid (hgrow.size)
            have hg8 := Lib.hid (show g8 = g5 ∨ g8 = v19.heap.size from by rcases hat with q | q; (exact .inl (Option.some.inj q).symm); exact .inr q)
            have hl8 := Lib.hid (hR8v20.lt _ rfl).2
            have bDv20 := (bDv19).grown hgrow (fun hq => absurd (show v15.heap.size = g5 from Option.some.inj hq) (by have a0 := hsv0.out; have a1 := hsv1.out; have a2 := hsv14.out; have a3 := hsv15.out; have a4 := hg5.out; have a5 := hl5.out; have a6 := hl6.out; have a7 := hsv19.out; omega))
            clear hgrow hat
            refine hK.out _ _ (fun _ => HBX.out _ (hb5.trans (hbv20.mono hb5.size))) (fun hHeld => ?_)
            replace hHeld := hHeld (by kernel_rfl)
            clear hK K'
            try simp only [Act.put, List.setIfInBounds_toArray, List.set_cons_zero, List.set_cons_succ]
            refine OrdU.wpAnyU_take (i := 11) (oi := ⟨some 61, _, _, _, _, none⟩) (v := ?_) rfl (by kernel_rfl) (by kernel_rfl) (by kernel_rfl) (by decide) (by kernel_rfl) (fun _ _ _ h => h) (Or.inl ⟨by rfl, ?_⟩) (by assumption) ?_
            rotate_left
            · (intro w hSw; (try dsimp only at hSw); go_simp; (try with_reducible rfl))
            try simp only [Act.put, List.setIfInBounds_toArray, List.set_cons_zero, List.set_cons_succ]
            refine OrdU.wpAnyU_ready (rs := [13]) (by kernel_rfl) (by simp) ?_
            refine (OrdU.AllReadyU.cons (o := ⟨none, _, _, _, _, none⟩) rfl (fun K' hK => ?_) OrdU.AllReadyU.nil)
            obtain ⟨z0, z1, z2⟩ := (bDv20).three
            have f0 := (bDv20).frozen 0
            have f1 := (bDv20).frozen 1
            have f2 := (bDv20).frozen 2
            go_simp
            have hgD := (show w5.heap.size ≤ v15.heap.size from (by have a0 := hsv0.out; have a1 := hsv1.out; have a2 := hsv14.out; have a3 := hsv15.out; have a4 := hg5.out; have a5 := hl5.out; have a6 := hl6.out; have a7 := hsv19.out; have a8 := hsv20.out; have a9 := hg8.out; have a10 := hl8.out; omega))
            have bN : Blk (((v20.setCell ⟨v15.heap.size, 0, none⟩ (.int .i64 ps)).setCell ⟨v15.heap.size, 1, none⟩ (.slice (some ⟨g8, 0, none⟩) (vs.length + 1) cap8)).setCell ⟨v15.heap.size, 2, none⟩ (.slice B xs.length ce)) v15.heap.size 25 #[.int .i64 ps, .slice (some ⟨g8, 0, none⟩) (vs.length + 1) cap8, .slice B xs.length ce] := (((bDv20).set 0 (.int .i64 ps)).set 1 (.slice (some ⟨g8, 0, none⟩) (vs.length + 1) cap8)).set 2 (.slice B xs.length ce)
            have hbN := ((hbv20.setCell (p := ⟨v15.heap.size, 0, none⟩) hgD (.int .i64 ps)).setCell (p := ⟨v15.heap.size, 1, none⟩) hgD (.slice (some ⟨g8, 0, none⟩) (vs.length + 1) cap8)).setCell (p := ⟨v15.heap.size, 2, none⟩) hgD (.slice B xs.length ce)
            have hIN : IRow (((v20.setCell ⟨v15.heap.size, 0, none⟩ (.int .i64 ps)).setCell ⟨v15.heap.size, 1, none⟩ (.slice (some ⟨g8, 0, none⟩) (vs.length + 1) cap8)).setCell ⟨v15.heap.size, 2, none⟩ (.slice B xs.length ce)) (((v20.setCell ⟨v15.heap.size, 0, none⟩ (.int .i64 ps)).setCell ⟨v15.heap.size, 1, none⟩ (.slice (some ⟨g8, 0, none⟩) (vs.length + 1) cap8)).setCell ⟨v15.heap.size, 2, none⟩ (.slice B xs.length ce)).heap.size (some ⟨g8, 0, none⟩) (vs ++ [t]) := row_far3 (row_ints (icells_snoc vs t ▸ hR8v20)) (show g8 ≠ v15.heap.size from (by have a0 := hsv0.out; have a1 := hsv1.out; have a2 := hsv14.out; have a3 := hsv15.out; have a4 := hg5.out; have a5 := hl5.out; have a6 := hl6.out; have a7 := hsv19.out; have a8 := hsv20.out; have a9 := hg8.out; have a10 := hl8.out; omega)) _ _ _
            have hcp := own_cap2 hR8v20
            clear z0 z1 z2 f0 f1 f2
            refine hK.out _ _ (OrdU.no (by kernel_rfl)) (fun _ => ?_)
            clear hK K'
            try simp only [Act.put, List.setIfInBounds_toArray, List.set_cons_zero, List.set_cons_succ]
            refine OrdU.wpAnyU_done (by kernel_rfl) ?_ _
            go_wp2_with fail
            go_meet
            exact ⟨_, g8, cap8, rfl, hbN, hgD, bN, hIN, hcp⟩
        · go_simp
          have hbv22 := hbv14.alloc (hbv14.size) (.cells #[.int .i64 0, .slice none 0 0, .slice none 0 0] 25)
          have bDv22 : Blk (v14.alloc (.cells #[.int .i64 0, .slice none 0 0, .slice none 0 0] 25)) v14.heap.size 25 #[.int .i64 0, .slice none 0 0, .slice none 0 0] := Blk.new v14 _ _
          have hsv22 : (v14.alloc (.cells #[.int .i64 0, .slice none 0 0, .slice none 0 0] 25)).heap.size = v14.heap.size + 1 := World.size_alloc _ _
          have bEv22 := (bEv14).alloc (.cells #[.int .i64 0, .slice none 0 0, .slice none 0 0] 25)
          have bCv22 := (bCv14).alloc (.cells #[.int .i64 0, .slice none 0 0, .slice none 0 0] 25)
          refine hK.out _ _ (fun _ => HBX.out _ (hb5.trans (hbv22.mono hb5.size))) (fun hHeld => ?_)
          replace hHeld := hHeld (by kernel_rfl)
          clear hK K'
          try simp only [Act.put, List.setIfInBounds_toArray, List.set_cons_zero, List.set_cons_succ]
          obtain ⟨v22, ev22⟩ : ∃ x, v14.alloc (.cells #[.int .i64 0, .slice none 0 0, .slice none 0 0] 25) = x := ⟨_, rfl⟩
          rw [ev22] at hbv22 bDv22 hsv22 bEv22 bCv22 hHeld ⊢
          clear ev22
          replace hsv22 := Lib.hid hsv22
          refine OrdU.wpAnyU_ready (rs := [5]) (by kernel_rfl) (by simp) ?_
          refine (OrdU.AllReadyU.cons (o := ⟨some 55, _, _, _, _, none⟩) rfl (fun K' hK => ?_) OrdU.AllReadyU.nil)
          have hPw := (HP.out.at (hb5.trans (hbv22.mono hb5.size))).ok q1 q2
          refine step_append_lies _ (by rfl) _ _ _ (by rfl) w5.heap.size 3 ig _ 1 8 Try.underlying22 hig hz0 hz1 hz2 rfl (by omega) _ 0 [] (by rfl) (row0 (base := w5.heap.size) bEv22 (show w5.heap.size ≤ v0.heap.size from (by have a0 := hsv0.out; have a1 := hsv1.out; have a2 := hsv14.out; have a3 := hsv22.out; omega))) ad5 vs.length c0 (icells vs) (by rfl) (by simp [icells]) (row_news hPw.vars) (ints_oneCell .i64 vs) hv0 (by simp only [maxLen]; omega) (by omega) (hbv22.size) (v22.heap.size) rfl ?_
          intro g5 cap5 v23 hR5v23 hgrow hat hlt
          rw [Nat.zero_add, List.nil_append] at hR5v23
          have hbv23 := hbv22.grown hgrow (hbv22.size) (fun k e => by cases e; exact (show w5.heap.size ≤ v0.heap.size from (by have a0 := hsv0.out; have a1 := hsv1.out; have a2 := hsv14.out; have a3 := hsv22.out; omega)))
          have hsv23 := Lib.hid (hgrow.size)
          have hg5 := Lib.hid (show g5 = v0.heap.size ∨ g5 = v22.heap.size from by rcases hat with q | q; (exact .inl (Option.some.inj q).symm); exact .inr q)
          have hl5 := Lib.hid (hR5v23.lt _ rfl).2
          have hl6 := Lib.hid (hR5v23.lt _ rfl).1
          have bCv23 := (bCv22).grown hgrow (fun hq => absurd (show v1.heap.size = v0.heap.size from Option.some.inj hq) (by have a0 := hsv0.out; have a1 := hsv1.out; have a2 := hsv14.out; have a3 := hsv22.out; omega))
          have bDv23 := (bDv22).grown hgrow (fun hq => absurd (show v14.heap.size = v0.heap.size from Option.some.inj hq) (by have a0 := hsv0.out; have a1 := hsv1.out; have a2 := hsv14.out; have a3 := hsv22.out; omega))
          clear hgrow hat
          refine hK.out _ _ (fun _ => HBX.out _ (hb5.trans (hbv23.mono hb5.size))) (fun hHeld => ?_)
          replace hHeld := hHeld (by kernel_rfl)
          clear hK K'
          try simp only [Act.put, List.setIfInBounds_toArray, List.set_cons_zero, List.set_cons_succ]
          try simp only [Nat.zero_add]
          refine OrdU.wpAnyU_ready (rs := [8]) (by kernel_rfl) (by simp) ?_
          refine (OrdU.AllReadyU.cons (o := ⟨some 58, _, _, _, _, none⟩) rfl (fun K' hK => ?_) OrdU.AllReadyU.nil)
          refine step_append_lies _ (by rfl) _ _ _ (by rfl) w5.heap.size 3 ig _ 1 8 Try.underlying22 hig hz0 hz1 hz2 rfl (by omega) _ vs.length (icells vs) (by rfl) hR5v23 ⟨v1.heap.size, 0, none⟩ 1 1 [.int .i64 t] (by rfl) (by rfl) (World.news_of_block (cs := #[.int .i64 t]) (t := 3) (fr := (0, 0)) bCv23) (by simp [Value.oneCell']) (by omega) (by simp only [maxLen]; omega) (by omega) (hbv23.size) (v23.heap.size) rfl ?_
          intro g8 cap8 v24 hR8v24 hgrow hat hlt
          have hbv24 := hbv23.grown hgrow (hbv23.size) (fun k e => ((hR5v23).lt k e).1)
          have hsv24 := Lib.hid (hgrow.size)
          have hg8 := Lib.hid (show g8 = g5 ∨ g8 = v23.heap.size from by rcases hat with q | q; (exact .inl (Option.some.inj q).symm); exact .inr q)
          have hl8 := Lib.hid (hR8v24.lt _ rfl).2
          have bDv24 := (bDv23).grown hgrow (fun hq => absurd (show v14.heap.size = g5 from Option.some.inj hq) (by have a0 := hsv0.out; have a1 := hsv1.out; have a2 := hsv14.out; have a3 := hsv22.out; have a4 := hsv23.out; have a5 := hg5.out; have a6 := hl5.out; have a7 := hl6.out; omega))
          clear hgrow hat
          refine hK.out _ _ (fun _ => HBX.out _ (hb5.trans (hbv24.mono hb5.size))) (fun hHeld => ?_)
          replace hHeld := hHeld (by kernel_rfl)
          clear hK K'
          try simp only [Act.put, List.setIfInBounds_toArray, List.set_cons_zero, List.set_cons_succ]
          refine OrdU.wpAnyU_take (i := 11) (oi := ⟨some 61, _, _, _, _, none⟩) (v := ?_) rfl (by kernel_rfl) (by kernel_rfl) (by kernel_rfl) (by decide) (by kernel_rfl) (fun _ _ _ h => h) (Or.inl ⟨by rfl, ?_⟩) (by assumption) ?_
          rotate_left
          · (intro w hSw; (try dsimp only at hSw); go_simp; (try with_reducible rfl))
          try simp only [Act.put, List.setIfInBounds_toArray, List.set_cons_zero, List.set_cons_succ]
          refine OrdU.wpAnyU_ready (rs := [13]) (by kernel_rfl) (by simp) ?_
          refine (OrdU.AllReadyU.cons (o := ⟨none, _, _, _, _, none⟩) rfl (fun K' hK => ?_) OrdU.AllReadyU.nil)
          obtain ⟨z0, z1, z2⟩ := (bDv24).three
          have f0 := (bDv24).frozen 0
          have f1 := (bDv24).frozen 1
          have f2 := (bDv24).frozen 2
          go_simp
          have hgD := (show w5.heap.size ≤ v14.heap.size from (by have a0 := hsv0.out; have a1 := hsv1.out; have a2 := hsv14.out; have a3 := hsv22.out; have a4 := hsv23.out; have a5 := hg5.out; have a6 := hl5.out; have a7 := hl6.out; have a8 := hsv24.out; have a9 := hg8.out; have a10 := hl8.out; omega))
          have bN : Blk (((v24.setCell ⟨v14.heap.size, 0, none⟩ (.int .i64 ps)).setCell ⟨v14.heap.size, 1, none⟩ (.slice (some ⟨g8, 0, none⟩) (vs.length + 1) cap8)).setCell ⟨v14.heap.size, 2, none⟩ (.slice B xs.length ce)) v14.heap.size 25 #[.int .i64 ps, .slice (some ⟨g8, 0, none⟩) (vs.length + 1) cap8, .slice B xs.length ce] := (((bDv24).set 0 (.int .i64 ps)).set 1 (.slice (some ⟨g8, 0, none⟩) (vs.length + 1) cap8)).set 2 (.slice B xs.length ce)
          have hbN := ((hbv24.setCell (p := ⟨v14.heap.size, 0, none⟩) hgD (.int .i64 ps)).setCell (p := ⟨v14.heap.size, 1, none⟩) hgD (.slice (some ⟨g8, 0, none⟩) (vs.length + 1) cap8)).setCell (p := ⟨v14.heap.size, 2, none⟩) hgD (.slice B xs.length ce)
          have hIN : IRow (((v24.setCell ⟨v14.heap.size, 0, none⟩ (.int .i64 ps)).setCell ⟨v14.heap.size, 1, none⟩ (.slice (some ⟨g8, 0, none⟩) (vs.length + 1) cap8)).setCell ⟨v14.heap.size, 2, none⟩ (.slice B xs.length ce)) (((v24.setCell ⟨v14.heap.size, 0, none⟩ (.int .i64 ps)).setCell ⟨v14.heap.size, 1, none⟩ (.slice (some ⟨g8, 0, none⟩) (vs.length + 1) cap8)).setCell ⟨v14.heap.size, 2, none⟩ (.slice B xs.length ce)).heap.size (some ⟨g8, 0, none⟩) (vs ++ [t]) := row_far3 (row_ints (icells_snoc vs t ▸ hR8v24)) (show g8 ≠ v14.heap.size from (by have a0 := hsv0.out; have a1 := hsv1.out; have a2 := hsv14.out; have a3 := hsv22.out; have a4 := hsv23.out; have a5 := hg5.out; have a6 := hl5.out; have a7 := hl6.out; have a8 := hsv24.out; have a9 := hg8.out; have a10 := hl8.out; omega)) _ _ _
          have hcp := own_cap2 hR8v24
          clear z0 z1 z2 f0 f1 f2
          refine hK.out _ _ (OrdU.no (by kernel_rfl)) (fun _ => ?_)
          clear hK K'
          try simp only [Act.put, List.setIfInBounds_toArray, List.set_cons_zero, List.set_cons_succ]
          refine OrdU.wpAnyU_done (by kernel_rfl) ?_ _
          go_wp2_with fail
          go_meet
          exact ⟨_, g8, cap8, rfl, hbN, hgD, bN, hIN, hcp⟩
      · go_simp
        have hbv26 := hbv1.alloc (hbv1.size) (.cells #[.int .i64 0, .slice none 0 0, .slice none 0 0] 25)
        have bDv26 : Blk (v1.alloc (.cells #[.int .i64 0, .slice none 0 0, .slice none 0 0] 25)) v1.heap.size 25 #[.int .i64 0, .slice none 0 0, .slice none 0 0] := Blk.new v1 _ _
        have hsv26 : (v1.alloc (.cells #[.int .i64 0, .slice none 0 0, .slice none 0 0] 25)).heap.size = v1.heap.size + 1 := World.size_alloc _ _
        have bEv26 := (bEv1).alloc (.cells #[.int .i64 0, .slice none 0 0, .slice none 0 0] 25)
        refine hK.out _ _ (fun _ => HBX.out _ (hb5.trans (hbv26.mono hb5.size))) (fun hHeld => ?_)
        replace hHeld := hHeld (by kernel_rfl)
        clear hK K'
        try simp only [Act.put, List.setIfInBounds_toArray, List.set_cons_zero, List.set_cons_succ]
        obtain ⟨v26, ev26⟩ : ∃ x, v1.alloc (.cells #[.int .i64 0, .slice none 0 0, .slice none 0 0] 25) = x := ⟨_, rfl⟩
        rw [ev26] at hbv26 bDv26 hsv26 bEv26 hHeld ⊢
        clear ev26
        replace hsv26 := Lib.hid hsv26
        refine OrdU.wpAnyU_ready (rs := [5, 7]) (by kernel_rfl) (by simp) ?_
        refine (OrdU.AllReadyU.cons (o := ⟨some 55, _, _, _, _, none⟩) rfl (fun K' hK => ?_) (OrdU.AllReadyU.cons (o := ⟨some 57, _, _, _, _, none⟩) rfl (fun K' hK => ?_) OrdU.AllReadyU.nil))
        · have hPw := (HP.out.at (hb5.trans (hbv26.mono hb5.size))).ok q1 q2
          refine step_append_lies _ (by rfl) _ _ _ (by rfl) w5.heap.size 3 ig _ 1 8 Try.underlying22 hig hz0 hz1 hz2 rfl (by omega) _ 0 [] (by rfl) (row0 (base := w5.heap.size) bEv26 (show w5.heap.size ≤ v0.heap.size from (by have a0 := hsv0.out; have a1 := hsv1.out; have a2 := hsv26.out; omega))) ad5 vs.length c0 (icells vs) (by rfl) (by simp [icells]) (row_news hPw.vars) (ints_oneCell .i64 vs) hv0 (by simp only [maxLen]; omega) (by omega) (hbv26.size) (v26.heap.size) rfl ?_
          intro g5 cap5 v27 hR5v27 hgrow hat hlt
          rw [Nat.zero_add, List.nil_append] at hR5v27
          have hbv27 := hbv26.grown hgrow (hbv26.size) (fun k e => by cases e; exact (show w5.heap.size ≤ v0.heap.size from (by have a0 := hsv0.out; have a1 := hsv1.out; have a2 := hsv26.out; omega)))
          have hsv27 := Lib.hid (hgrow.size)
          have hg5 := Lib.hid (show g5 = v0.heap.size ∨ g5 = v26.heap.size from by rcases hat with q | q; (exact .inl (Option.some.inj q).symm); exact .inr q)
          have hl5 := Lib.hid (hR5v27.lt _ rfl).2
          have hl6 := Lib.hid (hR5v27.lt _ rfl).1
          have bDv27 := (bDv26).grown hgrow (fun hq => absurd (show v1.heap.size = v0.heap.size from Option.some.inj hq) (by have a0 := hsv0.out; have a1 := hsv1.out; have a2 := hsv26.out; omega))
          clear hgrow hat
          refine hK.out _ _ (fun _ => HBX.out _ (hb5.trans (hbv27.mono hb5.size))) (fun hHeld => ?_)
          replace hHeld := hHeld (by kernel_rfl)
          clear hK K'
          try simp only [Act.put, List.setIfInBounds_toArray, List.set_cons_zero, List.set_cons_succ]
          try simp only [Nat.zero_add]
          refine OrdU.wpAnyU_ready (rs := [7]) (by kernel_rfl) (by simp) ?_
          refine (OrdU.AllReadyU.cons (o := ⟨some 57, _, _, _, _, none⟩) rfl (fun K' hK => ?_) OrdU.AllReadyU.nil)
          go_simp
          have hbv28 := hbv27.alloc (hbv27.size) (.cells #[.int .i64 t] 3)
          have bCv28 : Blk (v27.alloc (.cells #[.int .i64 t] 3)) v27.heap.size 3 #[.int .i64 t] := Blk.new v27 _ _
          have hsv28 : (v27.alloc (.cells #[.int .i64 t] 3)).heap.size = v27.heap.size + 1 := World.size_alloc _ _
          have bDv28 := (bDv27).alloc (.cells #[.int .i64 t] 3)
          have hR5v28 := (hR5v27).alloc (.cells #[.int .i64 t] 3)
          refine hK.out _ _ (fun _ => HBX.out _ (hb5.trans (hbv28.mono hb5.size))) (fun hHeld => ?_)
          replace hHeld := hHeld (by kernel_rfl)
          clear hK K'
          try simp only [Act.put, List.setIfInBounds_toArray, List.set_cons_zero, List.set_cons_succ]
          obtain ⟨v28, ev28⟩ : ∃ x, v27.alloc (.cells #[.int .i64 t] 3) = x := ⟨_, rfl⟩
          rw [ev28] at hbv28 bCv28 hsv28 bDv28 hR5v28 hHeld ⊢
          clear ev28
          replace hsv28 := Lib.hid hsv28
          refine OrdU.wpAnyU_ready (rs := [8]) (by kernel_rfl) (by simp) ?_
          refine (OrdU.AllReadyU.cons (o := ⟨some 58, _, _, _, _, none⟩) rfl (fun K' hK => ?_) OrdU.AllReadyU.nil)
          refine step_append_lies _ (by rfl) _ _ _ (by rfl) w5.heap.size 3 ig _ 1 8 Try.underlying22 hig hz0 hz1 hz2 rfl (by omega) _ vs.length (icells vs) (by rfl) hR5v28 ⟨v27.heap.size, 0, none⟩ 1 1 [.int .i64 t] (by rfl) (by rfl) (World.news_of_block (cs := #[.int .i64 t]) (t := 3) (fr := (0, 0)) bCv28) (by simp [Value.oneCell']) (by omega) (by simp only [maxLen]; omega) (by omega) (hbv28.size) (v28.heap.size) rfl ?_
          intro g8 cap8 v29 hR8v29 hgrow hat hlt
          have hbv29 := hbv28.grown hgrow (hbv28.size) (fun k e => ((hR5v28).lt k e).1)
          have hsv29 := Lib.hid (hgrow.size)
          have hg8 := Lib.hid (show g8 = g5 ∨ g8 = v28.heap.size from by rcases hat with q | q; (exact .inl (Option.some.inj q).symm); exact .inr q)
          have hl8 := Lib.hid (hR8v29.lt _ rfl).2
          have bDv29 := (bDv28).grown hgrow (fun hq => absurd (show v1.heap.size = g5 from Option.some.inj hq) (by have a0 := hsv0.out; have a1 := hsv1.out; have a2 := hsv26.out; have a3 := hsv27.out; have a4 := hg5.out; have a5 := hl5.out; have a6 := hl6.out; have a7 := hsv28.out; omega))
          clear hgrow hat
          refine hK.out _ _ (fun _ => HBX.out _ (hb5.trans (hbv29.mono hb5.size))) (fun hHeld => ?_)
          replace hHeld := hHeld (by kernel_rfl)
          clear hK K'
          try simp only [Act.put, List.setIfInBounds_toArray, List.set_cons_zero, List.set_cons_succ]
          refine OrdU.wpAnyU_take (i := 11) (oi := ⟨some 61, _, _, _, _, none⟩) (v := ?_) rfl (by kernel_rfl) (by kernel_rfl) (by kernel_rfl) (by decide) (by kernel_rfl) (fun _ _ _ h => h) (Or.inl ⟨by rfl, ?_⟩) (by assumption) ?_
          rotate_left
          · (intro w hSw; (try dsimp only at hSw); go_simp; (try with_reducible rfl))
          try simp only [Act.put, List.setIfInBounds_toArray, List.set_cons_zero, List.set_cons_succ]
          refine OrdU.wpAnyU_ready (rs := [13]) (by kernel_rfl) (by simp) ?_
          refine (OrdU.AllReadyU.cons (o := ⟨none, _, _, _, _, none⟩) rfl (fun K' hK => ?_) OrdU.AllReadyU.nil)
          obtain ⟨z0, z1, z2⟩ := (bDv29).three
          have f0 := (bDv29).frozen 0
          have f1 := (bDv29).frozen 1
          have f2 := (bDv29).frozen 2
          go_simp
          have hgD := (show w5.heap.size ≤ v1.heap.size from (by have a0 := hsv0.out; have a1 := hsv1.out; have a2 := hsv26.out; have a3 := hsv27.out; have a4 := hg5.out; have a5 := hl5.out; have a6 := hl6.out; have a7 := hsv28.out; have a8 := hsv29.out; have a9 := hg8.out; have a10 := hl8.out; omega))
          have bN : Blk (((v29.setCell ⟨v1.heap.size, 0, none⟩ (.int .i64 ps)).setCell ⟨v1.heap.size, 1, none⟩ (.slice (some ⟨g8, 0, none⟩) (vs.length + 1) cap8)).setCell ⟨v1.heap.size, 2, none⟩ (.slice B xs.length ce)) v1.heap.size 25 #[.int .i64 ps, .slice (some ⟨g8, 0, none⟩) (vs.length + 1) cap8, .slice B xs.length ce] := (((bDv29).set 0 (.int .i64 ps)).set 1 (.slice (some ⟨g8, 0, none⟩) (vs.length + 1) cap8)).set 2 (.slice B xs.length ce)
          have hbN := ((hbv29.setCell (p := ⟨v1.heap.size, 0, none⟩) hgD (.int .i64 ps)).setCell (p := ⟨v1.heap.size, 1, none⟩) hgD (.slice (some ⟨g8, 0, none⟩) (vs.length + 1) cap8)).setCell (p := ⟨v1.heap.size, 2, none⟩) hgD (.slice B xs.length ce)
          have hIN : IRow (((v29.setCell ⟨v1.heap.size, 0, none⟩ (.int .i64 ps)).setCell ⟨v1.heap.size, 1, none⟩ (.slice (some ⟨g8, 0, none⟩) (vs.length + 1) cap8)).setCell ⟨v1.heap.size, 2, none⟩ (.slice B xs.length ce)) (((v29.setCell ⟨v1.heap.size, 0, none⟩ (.int .i64 ps)).setCell ⟨v1.heap.size, 1, none⟩ (.slice (some ⟨g8, 0, none⟩) (vs.length + 1) cap8)).setCell ⟨v1.heap.size, 2, none⟩ (.slice B xs.length ce)).heap.size (some ⟨g8, 0, none⟩) (vs ++ [t]) := row_far3 (row_ints (icells_snoc vs t ▸ hR8v29)) (show g8 ≠ v1.heap.size from (by have a0 := hsv0.out; have a1 := hsv1.out; have a2 := hsv26.out; have a3 := hsv27.out; have a4 := hg5.out; have a5 := hl5.out; have a6 := hl6.out; have a7 := hsv28.out; have a8 := hsv29.out; have a9 := hg8.out; have a10 := hl8.out; omega)) _ _ _
          have hcp := own_cap2 hR8v29
          clear z0 z1 z2 f0 f1 f2
          refine hK.out _ _ (OrdU.no (by kernel_rfl)) (fun _ => ?_)
          clear hK K'
          try simp only [Act.put, List.setIfInBounds_toArray, List.set_cons_zero, List.set_cons_succ]
          refine OrdU.wpAnyU_done (by kernel_rfl) ?_ _
          go_wp2_with fail
          go_meet
          exact ⟨_, g8, cap8, rfl, hbN, hgD, bN, hIN, hcp⟩
        · go_simp
          have hbv31 := hbv26.alloc (hbv26.size) (.cells #[.int .i64 t] 3)
          have bCv31 : Blk (v26.alloc (.cells #[.int .i64 t] 3)) v26.heap.size 3 #[.int .i64 t] := Blk.new v26 _ _
          have hsv31 : (v26.alloc (.cells #[.int .i64 t] 3)).heap.size = v26.heap.size + 1 := World.size_alloc _ _
          have bEv31 := (bEv26).alloc (.cells #[.int .i64 t] 3)
          have bDv31 := (bDv26).alloc (.cells #[.int .i64 t] 3)
          refine hK.out _ _ (fun _ => HBX.out _ (hb5.trans (hbv31.mono hb5.size))) (fun hHeld => ?_)
          replace hHeld := hHeld (by kernel_rfl)
          clear hK K'
          try simp only [Act.put, List.setIfInBounds_toArray, List.set_cons_zero, List.set_cons_succ]
          obtain ⟨v31, ev31⟩ : ∃ x, v26.alloc (.cells #[.int .i64 t] 3) = x := ⟨_, rfl⟩
          rw [ev31] at hbv31 bCv31 hsv31 bEv31 bDv31 hHeld ⊢
          clear ev31
          replace hsv31 := Lib.hid hsv31
          refine OrdU.wpAnyU_ready (rs := [5]) (by kernel_rfl) (by simp) ?_
          refine (OrdU.AllReadyU.cons (o := ⟨some 55, _, _, _, _, none⟩) rfl (fun K' hK => ?_) OrdU.AllReadyU.nil)
          have hPw := (HP.out.at (hb5.trans (hbv31.mono hb5.size))).ok q1 q2
          refine step_append_lies _ (by rfl) _ _ _ (by rfl) w5.heap.size 3 ig _ 1 8 Try.underlying22 hig hz0 hz1 hz2 rfl (by omega) _ 0 [] (by rfl) (row0 (base := w5.heap.size) bEv31 (show w5.heap.size ≤ v0.heap.size from (by have a0 := hsv0.out; have a1 := hsv1.out; have a2 := hsv26.out; have a3 := hsv31.out; omega))) ad5 vs.length c0 (icells vs) (by rfl) (by simp [icells]) (row_news hPw.vars) (ints_oneCell .i64 vs) hv0 (by simp only [maxLen]; omega) (by omega) (hbv31.size) (v31.heap.size) rfl ?_
          intro g5 cap5 v32 hR5v32 hgrow hat hlt
          rw [Nat.zero_add, List.nil_append] at hR5v32
          have hbv32 := hbv31.grown hgrow (hbv31.size) (fun k e => by cases e; exact (show w5.heap.size ≤ v0.heap.size from (by have a0 := hsv0.out; have a1 := hsv1.out; have a2 := hsv26.out; have a3 := hsv31.out; omega)))
          have hsv32 := Lib.hid (hgrow.size)
          have hg5 := Lib.hid (show g5 = v0.heap.size ∨ g5 = v31.heap.size from by rcases hat with q | q; (exact .inl (Option.some.inj q).symm); exact .inr q)
          have hl5 := Lib.hid (hR5v32.lt _ rfl).2
          have hl6 := Lib.hid (hR5v32.lt _ rfl).1
          have bCv32 := (bCv31).grown hgrow (fun hq => absurd (show v26.heap.size = v0.heap.size from Option.some.inj hq) (by have a0 := hsv0.out; have a1 := hsv1.out; have a2 := hsv26.out; have a3 := hsv31.out; omega))
          have bDv32 := (bDv31).grown hgrow (fun hq => absurd (show v1.heap.size = v0.heap.size from Option.some.inj hq) (by have a0 := hsv0.out; have a1 := hsv1.out; have a2 := hsv26.out; have a3 := hsv31.out; omega))
          clear hgrow hat
          refine hK.out _ _ (fun _ => HBX.out _ (hb5.trans (hbv32.mono hb5.size))) (fun hHeld => ?_)
          replace hHeld := hHeld (by kernel_rfl)
          clear hK K'
          try simp only [Act.put, List.setIfInBounds_toArray, List.set_cons_zero, List.set_cons_succ]
          try simp only [Nat.zero_add]
          refine OrdU.wpAnyU_ready (rs := [8]) (by kernel_rfl) (by simp) ?_
          refine (OrdU.AllReadyU.cons (o := ⟨some 58, _, _, _, _, none⟩) rfl (fun K' hK => ?_) OrdU.AllReadyU.nil)
          refine step_append_lies _ (by rfl) _ _ _ (by rfl) w5.heap.size 3 ig _ 1 8 Try.underlying22 hig hz0 hz1 hz2 rfl (by omega) _ vs.length (icells vs) (by rfl) hR5v32 ⟨v26.heap.size, 0, none⟩ 1 1 [.int .i64 t] (by rfl) (by rfl) (World.news_of_block (cs := #[.int .i64 t]) (t := 3) (fr := (0, 0)) bCv32) (by simp [Value.oneCell']) (by omega) (by simp only [maxLen]; omega) (by omega) (hbv32.size) (v32.heap.size) rfl ?_
          intro g8 cap8 v33 hR8v33 hgrow hat hlt
          have hbv33 := hbv32.grown hgrow (hbv32.size) (fun k e => ((hR5v32).lt k e).1)
          have hsv33 := Lib.hid (hgrow.size)
          have hg8 := Lib.hid (show g8 = g5 ∨ g8 = v32.heap.size from by rcases hat with q | q; (exact .inl (Option.some.inj q).symm); exact .inr q)
          have hl8 := Lib.hid (hR8v33.lt _ rfl).2
          have bDv33 := (bDv32).grown hgrow (fun hq => absurd (show v1.heap.size = g5 from Option.some.inj hq) (by have a0 := hsv0.out; have a1 := hsv1.out; have a2 := hsv26.out; have a3 := hsv31.out; have a4 := hsv32.out; have a5 := hg5.out; have a6 := hl5.out; have a7 := hl6.out; omega))
          clear hgrow hat
          refine hK.out _ _ (fun _ => HBX.out _ (hb5.trans (hbv33.mono hb5.size))) (fun hHeld => ?_)
          replace hHeld := hHeld (by kernel_rfl)
          clear hK K'
          try simp only [Act.put, List.setIfInBounds_toArray, List.set_cons_zero, List.set_cons_succ]
          refine OrdU.wpAnyU_take (i := 11) (oi := ⟨some 61, _, _, _, _, none⟩) (v := ?_) rfl (by kernel_rfl) (by kernel_rfl) (by kernel_rfl) (by decide) (by kernel_rfl) (fun _ _ _ h => h) (Or.inl ⟨by rfl, ?_⟩) (by assumption) ?_
          rotate_left
          · (intro w hSw; (try dsimp only at hSw); go_simp; (try with_reducible rfl))
          try simp only [Act.put, List.setIfInBounds_toArray, List.set_cons_zero, List.set_cons_succ]
          refine OrdU.wpAnyU_ready (rs := [13]) (by kernel_rfl) (by simp) ?_
          refine (OrdU.AllReadyU.cons (o := ⟨none, _, _, _, _, none⟩) rfl (fun K' hK => ?_) OrdU.AllReadyU.nil)
          obtain ⟨z0, z1, z2⟩ := (bDv33).three
          have f0 := (bDv33).frozen 0
          have f1 := (bDv33).frozen 1
          have f2 := (bDv33).frozen 2
          go_simp
          have hgD := (show w5.heap.size ≤ v1.heap.size from (by have a0 := hsv0.out; have a1 := hsv1.out; have a2 := hsv26.out; have a3 := hsv31.out; have a4 := hsv32.out; have a5 := hg5.out; have a6 := hl5.out; have a7 := hl6.out; have a8 := hsv33.out; have a9 := hg8.out; have a10 := hl8.out; omega))
          have bN : Blk (((v33.setCell ⟨v1.heap.size, 0, none⟩ (.int .i64 ps)).setCell ⟨v1.heap.size, 1, none⟩ (.slice (some ⟨g8, 0, none⟩) (vs.length + 1) cap8)).setCell ⟨v1.heap.size, 2, none⟩ (.slice B xs.length ce)) v1.heap.size 25 #[.int .i64 ps, .slice (some ⟨g8, 0, none⟩) (vs.length + 1) cap8, .slice B xs.length ce] := (((bDv33).set 0 (.int .i64 ps)).set 1 (.slice (some ⟨g8, 0, none⟩) (vs.length + 1) cap8)).set 2 (.slice B xs.length ce)
          have hbN := ((hbv33.setCell (p := ⟨v1.heap.size, 0, none⟩) hgD (.int .i64 ps)).setCell (p := ⟨v1.heap.size, 1, none⟩) hgD (.slice (some ⟨g8, 0, none⟩) (vs.length + 1) cap8)).setCell (p := ⟨v1.heap.size, 2, none⟩) hgD (.slice B xs.length ce)
          have hIN : IRow (((v33.setCell ⟨v1.heap.size, 0, none⟩ (.int .i64 ps)).setCell ⟨v1.heap.size, 1, none⟩ (.slice (some ⟨g8, 0, none⟩) (vs.length + 1) cap8)).setCell ⟨v1.heap.size, 2, none⟩ (.slice B xs.length ce)) (((v33.setCell ⟨v1.heap.size, 0, none⟩ (.int .i64 ps)).setCell ⟨v1.heap.size, 1, none⟩ (.slice (some ⟨g8, 0, none⟩) (vs.length + 1) cap8)).setCell ⟨v1.heap.size, 2, none⟩ (.slice B xs.length ce)).heap.size (some ⟨g8, 0, none⟩) (vs ++ [t]) := row_far3 (row_ints (icells_snoc vs t ▸ hR8v33)) (show g8 ≠ v1.heap.size from (by have a0 := hsv0.out; have a1 := hsv1.out; have a2 := hsv26.out; have a3 := hsv31.out; have a4 := hsv32.out; have a5 := hg5.out; have a6 := hl5.out; have a7 := hl6.out; have a8 := hsv33.out; have a9 := hg8.out; have a10 := hl8.out; omega)) _ _ _
          have hcp := own_cap2 hR8v33
          clear z0 z1 z2 f0 f1 f2
          refine hK.out _ _ (OrdU.no (by kernel_rfl)) (fun _ => ?_)
          clear hK K'
          try simp only [Act.put, List.setIfInBounds_toArray, List.set_cons_zero, List.set_cons_succ]
          refine OrdU.wpAnyU_done (by kernel_rfl) ?_ _
          go_wp2_with fail
          go_meet
          exact ⟨_, g8, cap8, rfl, hbN, hgD, bN, hIN, hcp⟩
    · go_simp
      have hbv35 := hbv0.alloc (hbv0.size) (.cells #[.int .i64 t] 3)
      have bCv35 : Blk (v0.alloc (.cells #[.int .i64 t] 3)) v0.heap.size 3 #[.int .i64 t] := Blk.new v0 _ _
      have hsv35 : (v0.alloc (.cells #[.int .i64 t] 3)).heap.size = v0.heap.size + 1 := World.size_alloc _ _
      refine hK.out _ _ (fun _ => HBX.out _ (hb5.trans (hbv35.mono hb5.size))) (fun hHeld => ?_)
      replace hHeld := hHeld (by kernel_rfl)
      clear hK K'
      try simp only [Act.put, List.setIfInBounds_toArray, List.set_cons_zero, List.set_cons_succ]
      obtain ⟨v35, ev35⟩ : ∃ x, v0.alloc (.cells #[.int .i64 t] 3) = x := ⟨_, rfl⟩
      rw [ev35] at hbv35 bCv35 hsv35 hHeld ⊢
      clear ev35
      replace hsv35 := Lib.hid hsv35
      refine OrdU.wpAnyU_ready (rs := [2, 12]) (by kernel_rfl) (by simp) ?_
      refine (OrdU.AllReadyU.cons (o := ⟨some 52, _, _, _, _, none⟩) rfl (fun K' hK => ?_) (OrdU.AllReadyU.cons (o := ⟨some 12, _, _, _, _, none⟩) rfl (fun K' hK => ?_) OrdU.AllReadyU.nil))
      · go_simp
        have hbv36 := hbv35.alloc (hbv35.size) (.cells #[] 3)
        have bEv36 : Blk (v35.alloc (.cells #[] 3)) v35.heap.size 3 #[] := Blk.new v35 _ _
        have hsv36 : (v35.alloc (.cells #[] 3)).heap.size = v35.heap.size + 1 := World.size_alloc _ _
        have bCv36 := (bCv35).alloc (.cells #[] 3)
        refine hK.out _ _ (fun _ => HBX.out _ (hb5.trans (hbv36.mono hb5.size))) (fun hHeld => ?_)
        replace hHeld := hHeld (by kernel_rfl)
        clear hK K'
        try simp only [Act.put, List.setIfInBounds_toArray, List.set_cons_zero, List.set_cons_succ]
        obtain ⟨v36, ev36⟩ : ∃ x, v35.alloc (.cells #[] 3) = x := ⟨_, rfl⟩
        rw [ev36] at hbv36 bEv36 hsv36 bCv36 hHeld ⊢
        clear ev36
        replace hsv36 := Lib.hid hsv36
        refine OrdU.wpAnyU_ready (rs := [5, 12]) (by kernel_rfl) (by simp) ?_
        refine (OrdU.AllReadyU.cons (o := ⟨some 55, _, _, _, _, none⟩) rfl (fun K' hK => ?_) (OrdU.AllReadyU.cons (o := ⟨some 12, _, _, _, _, none⟩) rfl (fun K' hK => ?_) OrdU.AllReadyU.nil))
        · have hPw := (HP.out.at (hb5.trans (hbv36.mono hb5.size))).ok q1 q2
          refine step_append_lies _ (by rfl) _ _ _ (by rfl) w5.heap.size 3 ig _ 1 8 Try.underlying22 hig hz0 hz1 hz2 rfl (by omega) _ 0 [] (by rfl) (row0 (base := w5.heap.size) bEv36 (show w5.heap.size ≤ v35.heap.size from (by have a0 := hsv0.out; have a1 := hsv35.out; have a2 := hsv36.out; omega))) ad5 vs.length c0 (icells vs) (by rfl) (by simp [icells]) (row_news hPw.vars) (ints_oneCell .i64 vs) hv0 (by simp only [maxLen]; omega) (by omega) (hbv36.size) (v36.heap.size) rfl ?_
          intro g5 cap5 v37 hR5v37 hgrow hat hlt
          rw [Nat.zero_add, List.nil_append] at hR5v37
          have hbv37 := hbv36.grown hgrow (hbv36.size) (fun k e => by cases e; exact (show w5.heap.size ≤ v35.heap.size from (by have a0 := hsv0.out; have a1 := hsv35.out; have a2 := hsv36.out; omega)))
          have hsv37 := Lib.hid (hgrow.size)
          have hg5 := Lib.hid (show g5 = v35.heap.size ∨ g5 = v36.heap.size from by rcases hat with q | q; (exact .inl (Option.some.inj q).symm); exact .inr q)
          have hl5 := Lib.hid (hR5v37.lt _ rfl).2
          have hl6 := Lib.hid (hR5v37.lt _ rfl).1
          have bCv37 := (bCv36).grown hgrow (fun hq => absurd (show v0.heap.size = v35.heap.size from Option.some.inj hq) (by have a0 := hsv0.out; have a1 := hsv35.out; have a2 := hsv36.out; omega))
          clear hgrow hat
          refine hK.out _ _ (fun _ => HBX.out _ (hb5.trans (hbv37.mono hb5.size))) (fun hHeld => ?_)
          replace hHeld := hHeld (by kernel_rfl)
          clear hK K'
          try simp only [Act.put, List.setIfInBounds_toArray, List.set_cons_zero, List.set_cons_succ]
          try simp only [Nat.zero_add]
          refine OrdU.wpAnyU_ready (rs := [8, 12]) (by kernel_rfl) (by simp) ?_
          refine (OrdU.AllReadyU.cons (o := ⟨some 58, _, _, _, _, none⟩) rfl (fun K' hK => ?_) (OrdU.AllReadyU.cons (o := ⟨some 12, _, _, _, _, none⟩) rfl (fun K' hK => ?_) OrdU.AllReadyU.nil))
          · refine step_append_lies _ (by rfl) _ _ _ (by rfl) w5.heap.size 3 ig _ 1 8 Try.underlying22 hig hz0 hz1 hz2 rfl (by omega) _ vs.length (icells vs) (by rfl) hR5v37 ⟨v0.heap.size, 0, none⟩ 1 1 [.int .i64 t] (by rfl) (by rfl) (World.news_of_block (cs := #[.int .i64 t]) (t := 3) (fr := (0, 0)) bCv37) (by simp [Value.oneCell']) (by omega) (by simp only [maxLen]; omega) (by omega) (hbv37.size) (v37.heap.size) rfl ?_
            intro g8 cap8 v38 hR8v38 hgrow hat hlt
            have hbv38 := hbv37.grown hgrow (hbv37.size) (fun k e => ((hR5v37).lt k e).1)
            have hsv38 := Lib.hid (hgrow.size)
            have hg8 := Lib.hid (show g8 = g5 ∨ g8 = v37.heap.size from by rcases hat with q | q; (exact .inl (Option.some.inj q).symm); exact .inr q)
            have hl8 := Lib.hid (hR8v38.lt _ rfl).2
            clear hgrow hat
            refine hK.out _ _ (fun _ => HBX.out _ (hb5.trans (hbv38.mono hb5.size))) (fun hHeld => ?_)
            replace hHeld := hHeld (by kernel_rfl)
            clear hK K'
            try simp only [Act.put, List.setIfInBounds_toArray, List.set_cons_zero, List.set_cons_succ]
            refine OrdU.wpAnyU_take (i := 11) (oi := ⟨some 61, _, _, _, _, none⟩) (v := ?_) rfl (by kernel_rfl) (by kernel_rfl) (by kernel_rfl) (by decide) (by kernel_rfl) (fun _ _ _ h => h) (Or.inl ⟨by rfl, ?_⟩) (by assumption) ?_
            rotate_left
            · (intro w hSw; (try dsimp only at hSw); go_simp; (try with_reducible rfl))
            try simp only [Act.put, List.setIfInBounds_toArray, List.set_cons_zero, List.set_cons_succ]
            refine OrdU.wpAnyU_ready (rs := [12]) (by kernel_rfl) (by simp) ?_
            refine (OrdU.AllReadyU.cons (o := ⟨some 12, _, _, _, _, none⟩) rfl (fun K' hK => ?_) OrdU.AllReadyU.nil)
            go_simp
            have hbv39 := hbv38.alloc (hbv38.size) (.cells #[.int .i64 0, .slice none 0 0, .slice none 0 0] 25)
            have bDv39 : Blk (v38.alloc (.cells #[.int .i64 0, .slice none 0 0, .slice none 0 0] 25)) v38.heap.size 25 #[.int .i64 0, .slice none 0 0, .slice none 0 0] := Blk.new v38 _ _
            have hsv39 : (v38.alloc (.cells #[.int .i64 0, .slice none 0 0, .slice none 0 0] 25)).heap.size = v38.heap.size + 1 := World.size_alloc _ _
            have hR8v39 := (hR8v38).alloc (.cells #[.int .i64 0, .slice none 0 0, .slice none 0 0] 25)
            refine hK.out _ _ (fun _ => HBX.out _ (hb5.trans (hbv39.mono hb5.size))) (fun hHeld => ?_)
            replace hHeld := hHeld (by kernel_rfl)
            clear hK K'
            try simp only [Act.put, List.setIfInBounds_toArray, List.set_cons_zero, List.set_cons_succ]
            obtain ⟨v39, ev39⟩ : ∃ x, v38.alloc (.cells #[.int .i64 0, .slice none 0 0, .slice none 0 0] 25) = x := ⟨_, rfl⟩
            rw [ev39] at hbv39 bDv39 hsv39 hR8v39 hHeld ⊢
            clear ev39
            replace hsv39 := Lib.hid hsv39
            refine OrdU.wpAnyU_ready (rs := [13]) (by kernel_rfl) (by simp) ?_
            refine (OrdU.AllReadyU.cons (o := ⟨none, _, _, _, _, none⟩) rfl (fun K' hK => ?_) OrdU.AllReadyU.nil)
            obtain ⟨z0, z1, z2⟩ := (bDv39).three
            have f0 := (bDv39).frozen 0
            have f1 := (bDv39).frozen 1
            have f2 := (bDv39).frozen 2
            go_simp
            have hgD := (show w5.heap.size ≤ v38.heap.size from (by have a0 := hsv0.out; have a1 := hsv35.out; have a2 := hsv36.out; have a3 := hsv37.out; have a4 := hg5.out; have a5 := hl5.out; have a6 := hl6.out; have a7 := hsv38.out; have a8 := hg8.out; have a9 := hl8.out; have a10 := hsv39.out; omega))
            have bN : Blk (((v39.setCell ⟨v38.heap.size, 0, none⟩ (.int .i64 ps)).setCell ⟨v38.heap.size, 1, none⟩ (.slice (some ⟨g8, 0, none⟩) (vs.length + 1) cap8)).setCell ⟨v38.heap.size, 2, none⟩ (.slice B xs.length ce)) v38.heap.size 25 #[.int .i64 ps, .slice (some ⟨g8, 0, none⟩) (vs.length + 1) cap8, .slice B xs.length ce] := (((bDv39).set 0 (.int .i64 ps)).set 1 (.slice (some ⟨g8, 0, none⟩) (vs.length + 1) cap8)).set 2 (.slice B xs.length ce)
            have hbN := ((hbv39.setCell (p := ⟨v38.heap.size, 0, none⟩) hgD (.int .i64 ps)).setCell (p := ⟨v38.heap.size, 1, none⟩) hgD (.slice (some ⟨g8, 0, none⟩) (vs.length + 1) cap8)).setCell (p := ⟨v38.heap.size, 2, none⟩) hgD (.slice B xs.length ce)
            have hIN : IRow (((v39.setCell ⟨v38.heap.size, 0, none⟩ (.int .i64 ps)).setCell ⟨v38.heap.size, 1, none⟩ (.slice (some ⟨g8, 0, none⟩) (vs.length + 1) cap8)).setCell ⟨v38.heap.size, 2, none⟩ (.slice B xs.length ce)) (((v39.setCell ⟨v38.heap.size, 0, none⟩ (.int .i64 ps)).setCell ⟨v38.heap.size, 1, none⟩ (.slice (some ⟨g8, 0, none⟩) (vs.length + 1) cap8)).setCell ⟨v38.heap.size, 2, none⟩ (.slice B xs.length ce)).heap.size (some ⟨g8, 0, none⟩) (vs ++ [t]) := row_far3 (row_ints (icells_snoc vs t ▸ hR8v39)) (show g8 ≠ v38.heap.size from (by have a0 := hsv0.out; have a1 := hsv35.out; have a2 := hsv36.out; have a3 := hsv37.out; have a4 := hg5.out; have a5 := hl5.out; have a6 := hl6.out; have a7 := hsv38.out; have a8 := hg8.out; have a9 := hl8.out; have a10 := hsv39.out; omega)) _ _ _
            have hcp := own_cap2 hR8v39
            clear z0 z1 z2 f0 f1 f2
            refine hK.out _ _ (OrdU.no (by kernel_rfl)) (fun _ => ?_)
            clear hK K'
            try simp only [Act.put, List.setIfInBounds_toArray, List.set_cons_zero, List.set_cons_succ]
            refine OrdU.wpAnyU_done (by kernel_rfl) ?_ _
            go_wp2_with fail
            go_meet
            exact ⟨_, g8, cap8, rfl, hbN, hgD, bN, hIN, hcp⟩
          · go_simp
            have hbv41 := hbv37.alloc (hbv37.size) (.cells #[.int .i64 0, .slice none 0 0, .slice none 0 0] 25)
            have bDv41 : Blk (v37.alloc (.cells #[.int .i64 0, .slice none 0 0, .slice none 0 0] 25)) v37.heap.size 25 #[.int .i64 0, .slice none 0 0, .slice none 0 0] := Blk.new v37 _ _
            have hsv41 : (v37.alloc (.cells #[.int .i64 0, .slice none 0 0, .slice none 0 0] 25)).heap.size = v37.heap.size + 1 := World.size_alloc _ _
            have bCv41 := (bCv37).alloc (.cells #[.int .i64 0, .slice none 0 0, .slice none 0 0] 25)
            have hR5v41 := (hR5v37).alloc (.cells #[.int .i64 0, .slice none 0 0, .slice none 0 0] 25)
            refine hK.out _ _ (fun _ => HBX.out _ (hb5.trans (hbv41.mono hb5.size))) (fun hHeld => ?_)
            replace hHeld := hHeld (by kernel_rfl)
            clear hK K'
            try simp only [Act.put, List.setIfInBounds_toArray, List.set_cons_zero, List.set_cons_succ]
            obtain ⟨v41, ev41⟩ : ∃ x, v37.alloc (.cells #[.int .i64 0, .slice none 0 0, .slice none 0 0] 25) = x := ⟨_, rfl⟩
            rw [ev41] at hbv41 bDv41 hsv41 bCv41 hR5v41 hHeld ⊢
            clear ev41
            replace hsv41 := Lib.hid hsv41
            refine OrdU.wpAnyU_ready (rs := [8]) (by kernel_rfl) (by simp) ?_
            refine (OrdU.AllReadyU.cons (o := ⟨some 58, _, _, _, _, none⟩) rfl (fun K' hK => ?_) OrdU.AllReadyU.nil)
            refine step_append_lies _ (by rfl) _ _ _ (by rfl) w5.heap.size 3 ig _ 1 8 Try.underlying22 hig hz0 hz1 hz2 rfl (by omega) _ vs.length (icells vs) (by rfl) hR5v41 ⟨v0.heap.size, 0, none⟩ 1 1 [.int .i64 t] (by rfl) (by rfl) (World.news_of_block (cs := #[.int .i64 t]) (t := 3) (fr := (0, 0)) bCv41) (by simp [Value.oneCell']) (by omega) (by simp only [maxLen]; omega) (by omega) (hbv41.size) (v41.heap.size) rfl ?_
            intro g8 cap8 v42 hR8v42 hgrow hat hlt
            have hbv42 := hbv41.grown hgrow (hbv41.size) (fun k e => ((hR5v41).lt k e).1)
            have hsv42 := Lib.hid (hgrow.size)
            have hg8 := Lib.hid (show g8 = g5 ∨ g8 = v41.heap.size from by rcases hat with q | q; (exact .inl (Option.some.inj q).symm); exact .inr q)
            have hl8 := Lib.hid (hR8v42.lt _ rfl).2
            have bDv42 := (bDv41).grown hgrow (fun hq => absurd (show v37.heap.size = g5 from Option.some.inj hq) (by have a0 := hsv0.out; have a1 := hsv35.out; have a2 := hsv36.out; have a3 := hsv37.out; have a4 := hg5.out; have a5 := hl5.out; have a6 := hl6.out; have a7 := hsv41.out; omega))
            clear hgrow hat
            refine hK.out _ _ (fun _ => HBX.out _ (hb5.trans (hbv42.mono hb5.size))) (fun hHeld => ?_)
            replace hHeld := hHeld (by kernel_rfl)
            clear hK K'
            try simp only [Act.put, List.setIfInBounds_toArray, List.set_cons_zero, List.set_cons_succ]
            refine OrdU.wpAnyU_take (i := 11) (oi := ⟨some 61, _, _, _, _, none⟩) (v := ?_) rfl (by kernel_rfl) (by kernel_rfl) (by kernel_rfl) (by decide) (by kernel_rfl) (fun _ _ _ h => h) (Or.inl ⟨by rfl, ?_⟩) (by assumption) ?_
            rotate_left
            · (intro w hSw; (try dsimp only at hSw); go_simp; (try with_reducible rfl))
            try simp only [Act.put, List.setIfInBounds_toArray, List.set_cons_zero, List.set_cons_succ]
            refine OrdU.wpAnyU_ready (rs := [13]) (by kernel_rfl) (by simp) ?_
            refine (OrdU.AllReadyU.cons (o := ⟨none, _, _, _, _, none⟩) rfl (fun K' hK => ?_) OrdU.AllReadyU.nil)
            obtain ⟨z0, z1, z2⟩ := (bDv42).three
            have f0 := (bDv42).frozen 0
            have f1 := (bDv42).frozen 1
            have f2 := (bDv42).frozen 2
            go_simp
            have hgD := (show w5.heap.size ≤ v37.heap.size from (by have a0 := hsv0.out; have a1 := hsv35.out; have a2 := hsv36.out; have a3 := hsv37.out; have a4 := hg5.out; have a5 := hl5.out; have a6 := hl6.out; have a7 := hsv41.out; have a8 := hsv42.out; have a9 := hg8.out; have a10 := hl8.out; omega))
            have bN : Blk (((v42.setCell ⟨v37.heap.size, 0, none⟩ (.int .i64 ps)).setCell ⟨v37.heap.size, 1, none⟩ (.slice (some ⟨g8, 0, none⟩) (vs.length + 1) cap8)).setCell ⟨v37.heap.size, 2, none⟩ (.slice B xs.length ce)) v37.heap.size 25 #[.int .i64 ps, .slice (some ⟨g8, 0, none⟩) (vs.length + 1) cap8, .slice B xs.length ce] := (((bDv42).set 0 (.int .i64 ps)).set 1 (.slice (some ⟨g8, 0, none⟩) (vs.length + 1) cap8)).set 2 (.slice B xs.length ce)
            have hbN := ((hbv42.setCell (p := ⟨v37.heap.size, 0, none⟩) hgD (.int .i64 ps)).setCell (p := ⟨v37.heap.size, 1, none⟩) hgD (.slice (some ⟨g8, 0, none⟩) (vs.length + 1) cap8)).setCell (p := ⟨v37.heap.size, 2, none⟩) hgD (.slice B xs.length ce)
            have hIN : IRow (((v42.setCell ⟨v37.heap.size, 0, none⟩ (.int .i64 ps)).setCell ⟨v37.heap.size, 1, none⟩ (.slice (some ⟨g8, 0, none⟩) (vs.length + 1) cap8)).setCell ⟨v37.heap.size, 2, none⟩ (.slice B xs.length ce)) (((v42.setCell ⟨v37.heap.size, 0, none⟩ (.int .i64 ps)).setCell ⟨v37.heap.size, 1, none⟩ (.slice (some ⟨g8, 0, none⟩) (vs.length + 1) cap8)).setCell ⟨v37.heap.size, 2, none⟩ (.slice B xs.length ce)).heap.size (some ⟨g8, 0, none⟩) (vs ++ [t]) := row_far3 (row_ints (icells_snoc vs t ▸ hR8v42)) (show g8 ≠ v37.heap.size from (by have a0 := hsv0.out; have a1 := hsv35.out; have a2 := hsv36.out; have a3 := hsv37.out; have a4 := hg5.out; have a5 := hl5.out; have a6 := hl6.out; have a7 := hsv41.out; have a8 := hsv42.out; have a9 := hg8.out; have a10 := hl8.out; omega)) _ _ _
            have hcp := own_cap2 hR8v42
            clear z0 z1 z2 f0 f1 f2
            refine hK.out _ _ (OrdU.no (by kernel_rfl)) (fun _ => ?_)
            clear hK K'
            try simp only [Act.put, List.setIfInBounds_toArray, List.set_cons_zero, List.set_cons_succ]
            refine OrdU.wpAnyU_done (by kernel_rfl) ?_ _
            go_wp2_with fail
            go_meet
            exact ⟨_, g8, cap8, rfl, hbN, hgD, bN, hIN, hcp⟩
        · go_simp
          have hbv44 := hbv36.alloc (hbv36.size) (.cells #[.int .i64 0, .slice none 0 0, .slice none 0 0] 25)
          have bDv44 : Blk (v36.alloc (.cells #[.int .i64 0, .slice none 0 0, .slice none 0 0] 25)) v36.heap.size 25 #[.int .i64 0, .slice none 0 0, .slice none 0 0] := Blk.new v36 _ _
          have hsv44 : (v36.alloc (.cells #[.int .i64 0, .slice none 0 0, .slice none 0 0] 25)).heap.size = v36.heap.size + 1 := World.size_alloc _ _
          have bEv44 := (bEv36).alloc (.cells #[.int .i64 0, .slice none 0 0, .slice none 0 0] 25)
          have bCv44 := (bCv36).alloc (.cells #[.int .i64 0, .slice none 0 0, .slice none 0 0] 25)
          refine hK.out _ _ (fun _ => HBX.out _ (hb5.trans (hbv44.mono hb5.size))) (fun hHeld => ?_)
          replace hHeld := hHeld (by kernel_rfl)
          clear hK K'
          try simp only [Act.put, List.setIfInBounds_toArray, List.set_cons_zero, List.set_cons_succ]
          obtain ⟨v44, ev44⟩ : ∃ x, v36.alloc (.cells #[.int .i64 0, .slice none 0 0, .slice none 0 0] 25) = x := ⟨_, rfl⟩
          rw [ev44] at hbv44 bDv44 hsv44 bEv44 bCv44 hHeld ⊢
          clear ev44
          replace hsv44 := Lib.hid hsv44
          refine OrdU.wpAnyU_ready (rs := [5]) (by kernel_rfl) (by simp) ?_
          refine (OrdU.AllReadyU.cons (o := ⟨some 55, _, _, _, _, none⟩) rfl (fun K' hK => ?_) OrdU.AllReadyU.nil)
          have hPw := (HP.out.at (hb5.trans (hbv44.mono hb5.size))).ok q1 q2
          refine step_append_lies _ (by rfl) _ _ _ (by rfl) w5.heap.size 3 ig _ 1 8 Try.underlying22 hig hz0 hz1 hz2 rfl (by omega) _ 0 [] (by rfl) (row0 (base := w5.heap.size) bEv44 (show w5.heap.size ≤ v35.heap.size from (by have a0 := hsv0.out; have a1 := hsv35.out; have a2 := hsv36.out; have a3 := hsv44.out; omega))) ad5 vs.length c0 (icells vs) (by rfl) (by simp [icells]) (row_news hPw.vars) (ints_oneCell .i64 vs) hv0 (by simp only [maxLen]; omega) (by omega) (hbv44.size) (v44.heap.size) rfl ?_
          intro g5 cap5 v45 hR5v45 hgrow hat hlt
          rw [Nat.zero_add, List.nil_append] at hR5v45
          have hbv45 := hbv44.grown hgrow (hbv44.size) (fun k e => by cases e; exact (show w5.heap.size ≤ v35.heap.size from (by have a0 := hsv0.out; have a1 := hsv35.out; have a2 := hsv36.out; have a3 := hsv44.out; omega)))
          have hsv45 := Lib.hid (hgrow.size)
          have hg5 := Lib.hid (show g5 = v35.heap.size ∨ g5 = v44.heap.size from by rcases hat with q | q; (exact .inl (Option.some.inj q).symm); exact .inr q)
          have hl5 := Lib.hid (hR5v45.lt _ rfl).2
          have hl6 := Lib.hid (hR5v45.lt _ rfl).1
          have bCv45 := (bCv44).grown hgrow (fun hq => absurd (show v0.heap.size = v35.heap.size from Option.some.inj hq) (by have a0 := hsv0.out; have a1 := hsv35.out; have a2 := hsv36.out; have a3 := hsv44.out; omega))
          have bDv45 := (bDv44).grown hgrow (fun hq => absurd (show v36.heap.size = v35.heap.size from Option.some.inj hq) (by have a0 := hsv0.out; have a1 := hsv35.out; have a2 := hsv36.out; have a3 := hsv44.out; omega))
          clear hgrow hat
          refine hK.out _ _ (fun _ => HBX.out _ (hb5.trans (hbv45.mono hb5.size))) (fun hHeld => ?_)
          replace hHeld := hHeld (by kernel_rfl)
          clear hK K'
          try simp only [Act.put, List.setIfInBounds_toArray, List.set_cons_zero, List.set_cons_succ]
          try simp only [Nat.zero_add]
          refine OrdU.wpAnyU_ready (rs := [8]) (by kernel_rfl) (by simp) ?_
          refine (OrdU.AllReadyU.cons (o := ⟨some 58, _, _, _, _, none⟩) rfl (fun K' hK => ?_) OrdU.AllReadyU.nil)
          refine step_append_lies _ (by rfl) _ _ _ (by rfl) w5.heap.size 3 ig _ 1 8 Try.underlying22 hig hz0 hz1 hz2 rfl (by omega) _ vs.length (icells vs) (by rfl) hR5v45 ⟨v0.heap.size, 0, none⟩ 1 1 [.int .i64 t] (by rfl) (by rfl) (World.news_of_block (cs := #[.int .i64 t]) (t := 3) (fr := (0, 0)) bCv45) (by simp [Value.oneCell']) (by omega) (by simp only [maxLen]; omega) (by omega) (hbv45.size) (v45.heap.size) rfl ?_
          intro g8 cap8 v46 hR8v46 hgrow hat hlt
          have hbv46 := hbv45.grown hgrow (hbv45.size) (fun k e => ((hR5v45).lt k e).1)
          have hsv46 := Lib.hid (hgrow.size)
          have hg8 := Lib.hid (show g8 = g5 ∨ g8 = v45.heap.size from by rcases hat with q | q; (exact .inl (Option.some.inj q).symm); exact .inr q)
          have hl8 := Lib.hid (hR8v46.lt _ rfl).2
          have bDv46 := (bDv45).grown hgrow (fun hq => absurd (show v36.heap.size = g5 from Option.some.inj hq) (by have a0 := hsv0.out; have a1 := hsv35.out; have a2 := hsv36.out; have a3 := hsv44.out; have a4 := hsv45.out; have a5 := hg5.out; have a6 := hl5.out; have a7 := hl6.out; omega))
          clear hgrow hat
          refine hK.out _ _ (fun _ => HBX.out _ (hb5.trans (hbv46.mono hb5.size))) (fun hHeld => ?_)
          replace hHeld := hHeld (by kernel_rfl)
          clear hK K'
          try simp only [Act.put, List.setIfInBounds_toArray, List.set_cons_zero, List.set_cons_succ]
          refine OrdU.wpAnyU_take (i := 11) (oi := ⟨some 61, _, _, _, _, none⟩) (v := ?_) rfl (by kernel_rfl) (by kernel_rfl) (by kernel_rfl) (by decide) (by kernel_rfl) (fun _ _ _ h => h) (Or.inl ⟨by rfl, ?_⟩) (by assumption) ?_
          rotate_left
          · (intro w hSw; (try dsimp only at hSw); go_simp; (try with_reducible rfl))
          try simp only [Act.put, List.setIfInBounds_toArray, List.set_cons_zero, List.set_cons_succ]
          refine OrdU.wpAnyU_ready (rs := [13]) (by kernel_rfl) (by simp) ?_
          refine (OrdU.AllReadyU.cons (o := ⟨none, _, _, _, _, none⟩) rfl (fun K' hK => ?_) OrdU.AllReadyU.nil)
          obtain ⟨z0, z1, z2⟩ := (bDv46).three
          have f0 := (bDv46).frozen 0
          have f1 := (bDv46).frozen 1
          have f2 := (bDv46).frozen 2
          go_simp
          have hgD := (show w5.heap.size ≤ v36.heap.size from (by have a0 := hsv0.out; have a1 := hsv35.out; have a2 := hsv36.out; have a3 := hsv44.out; have a4 := hsv45.out; have a5 := hg5.out; have a6 := hl5.out; have a7 := hl6.out; have a8 := hsv46.out; have a9 := hg8.out; have a10 := hl8.out; omega))
          have bN : Blk (((v46.setCell ⟨v36.heap.size, 0, none⟩ (.int .i64 ps)).setCell ⟨v36.heap.size, 1, none⟩ (.slice (some ⟨g8, 0, none⟩) (vs.length + 1) cap8)).setCell ⟨v36.heap.size, 2, none⟩ (.slice B xs.length ce)) v36.heap.size 25 #[.int .i64 ps, .slice (some ⟨g8, 0, none⟩) (vs.length + 1) cap8, .slice B xs.length ce] := (((bDv46).set 0 (.int .i64 ps)).set 1 (.slice (some ⟨g8, 0, none⟩) (vs.length + 1) cap8)).set 2 (.slice B xs.length ce)
          have hbN := ((hbv46.setCell (p := ⟨v36.heap.size, 0, none⟩) hgD (.int .i64 ps)).setCell (p := ⟨v36.heap.size, 1, none⟩) hgD (.slice (some ⟨g8, 0, none⟩) (vs.length + 1) cap8)).setCell (p := ⟨v36.heap.size, 2, none⟩) hgD (.slice B xs.length ce)
          have hIN : IRow (((v46.setCell ⟨v36.heap.size, 0, none⟩ (.int .i64 ps)).setCell ⟨v36.heap.size, 1, none⟩ (.slice (some ⟨g8, 0, none⟩) (vs.length + 1) cap8)).setCell ⟨v36.heap.size, 2, none⟩ (.slice B xs.length ce)) (((v46.setCell ⟨v36.heap.size, 0, none⟩ (.int .i64 ps)).setCell ⟨v36.heap.size, 1, none⟩ (.slice (some ⟨g8, 0, none⟩) (vs.length + 1) cap8)).setCell ⟨v36.heap.size, 2, none⟩ (.slice B xs.length ce)).heap.size (some ⟨g8, 0, none⟩) (vs ++ [t]) := row_far3 (row_ints (icells_snoc vs t ▸ hR8v46)) (show g8 ≠ v36.heap.size from (by have a0 := hsv0.out; have a1 := hsv35.out; have a2 := hsv36.out; have a3 := hsv44.out; have a4 := hsv45.out; have a5 := hg5.out; have a6 := hl5.out; have a7 := hl6.out; have a8 := hsv46.out; have a9 := hg8.out; have a10 := hl8.out; omega)) _ _ _
          have hcp := own_cap2 hR8v46
          clear z0 z1 z2 f0 f1 f2
          refine hK.out _ _ (OrdU.no (by kernel_rfl)) (fun _ => ?_)
          clear hK K'
          try simp only [Act.put, List.setIfInBounds_toArray, List.set_cons_zero, List.set_cons_succ]
          refine OrdU.wpAnyU_done (by kernel_rfl) ?_ _
          go_wp2_with fail
          go_meet
          exact ⟨_, g8, cap8, rfl, hbN, hgD, bN, hIN, hcp⟩
      · go_simp
        have hbv48 := hbv35.alloc (hbv35.size) (.cells #[.int .i64 0, .slice none 0 0, .slice none 0 0] 25)
        have bDv48 : Blk (v35.alloc (.cells #[.int .i64 0, .slice none 0 0, .slice none 0 0] 25)) v35.heap.size 25 #[.int .i64 0, .slice none 0 0, .slice none 0 0] := Blk.new v35 _ _
        have hsv48 : (v35.alloc (.cells #[.int .i64 0, .slice none 0 0, .slice none 0 0] 25)).heap.size = v35.heap.size + 1 := World.size_alloc _ _
        have bCv48 := (bCv35).alloc (.cells #[.int .i64 0, .slice none 0 0, .slice none 0 0] 25)
        refine hK.out _ _ (fun _ => HBX.out _ (hb5.trans (hbv48.mono hb5.size))) (fun hHeld => ?_)
        replace hHeld := hHeld (by kernel_rfl)
        clear hK K'
        try simp only [Act.put, List.setIfInBounds_toArray, List.set_cons_zero, List.set_cons_succ]
        obtain ⟨v48, ev48⟩ : ∃ x, v35.alloc (.cells #[.int .i64 0, .slice none 0 0, .slice none 0 0] 25) = x := ⟨_, rfl⟩
        rw [ev48] at hbv48 bDv48 hsv48 bCv48 hHeld ⊢
        clear ev48
        replace hsv48 := Lib.hid hsv48
        refine OrdU.wpAnyU_ready (rs := [2]) (by kernel_rfl) (by simp) ?_
        refine (OrdU.AllReadyU.cons (o := ⟨some 52, _, _, _, _, none⟩) rfl (fun K' hK => ?_) OrdU.AllReadyU.nil)
        go_simp
        have hbv49 := hbv48.alloc (hbv48.size) (.cells #[] 3)
        have bEv49 : Blk (v48.alloc (.cells #[] 3)) v48.heap.size 3 #[] := Blk.new v48 _ _
        have hsv49 : (v48.alloc (.cells #[] 3)).heap.size = v48.heap.size + 1 := World.size_alloc _ _
        have bCv49 := (bCv48).alloc (.cells #[] 3)
        have bDv49 := (bDv48).alloc (.cells #[] 3)
        refine hK.out _ _ (fun _ => HBX.out _ (hb5.trans (hbv49.mono hb5.size))) (fun hHeld => ?_)
        replace hHeld := hHeld (by kernel_rfl)
        clear hK K'
        try simp only [Act.put, List.setIfInBounds_toArray, List.set_cons_zero, List.set_cons_succ]
        obtain ⟨v49, ev49⟩ : ∃ x, v48.alloc (.cells #[] 3) = x := ⟨_, rfl⟩
        rw [ev49] at hbv49 bEv49 hsv49 bCv49 bDv49 hHeld ⊢
        clear ev49
        replace hsv49 := Lib.hid hsv49
        refine OrdU.wpAnyU_ready (rs := [5]) (by kernel_rfl) (by simp) ?_
        refine (OrdU.AllReadyU.cons (o := ⟨some 55, _, _, _, _, none⟩) rfl (fun K' hK => ?_) OrdU.AllReadyU.nil)
        have hPw := (HP.out.at (hb5.trans (hbv49.mono hb5.size))).ok q1 q2
        refine step_append_lies _ (by rfl) _ _ _ (by rfl) w5.heap.size 3 ig _ 1 8 Try.underlying22 hig hz0 hz1 hz2 rfl (by omega) _ 0 [] (by rfl) (row0 (base := w5.heap.size) bEv49 (show w5.heap.size ≤ v48.heap.size from (by have a0 := hsv0.out; have a1 := hsv35.out; have a2 := hsv48.out; have a3 := hsv49.out; omega))) ad5 vs.length c0 (icells vs) (by rfl) (by simp [icells]) (row_news hPw.vars) (ints_oneCell .i64 vs) hv0 (by simp only [maxLen]; omega) (by omega) (hbv49.size) (v49.heap.size) rfl ?_
        intro g5 cap5 v50 hR5v50 hgrow hat hlt
        rw [Nat.zero_add, List.nil_append] at hR5v50
        have hbv50 := hbv49.grown hgrow (hbv49.size) (fun k e => by cases e; exact (show w5.heap.size ≤ v48.heap.size from (by have a0 := hsv0.out; have a1 := hsv35.out; have a2 := hsv48.out; have a3 := hsv49.out; omega)))
        have hsv50 := Lib.hid (hgrow.size)
        have hg5 := Lib.hid (show g5 = v48.heap.size ∨ g5 = v49.heap.size from by rcases hat with q | q; (exact .inl (Option.some.inj q).symm); exact .inr q)
        have hl5 := Lib.hid (hR5v50.lt _ rfl).2
        have hl6 := Lib.hid (hR5v50.lt _ rfl).1
        have bCv50 := (bCv49).grown hgrow (fun hq => absurd (show v0.heap.size = v48.heap.size from Option.some.inj hq) (by have a0 := hsv0.out; have a1 := hsv35.out; have a2 := hsv48.out; have a3 := hsv49.out; omega))
        have bDv50 := (bDv49).grown hgrow (fun hq => absurd (show v35.heap.size = v48.heap.size from Option.some.inj hq) (by have a0 := hsv0.out; have a1 := hsv35.out; have a2 := hsv48.out; have a3 := hsv49.out; omega))
        clear hgrow hat
        refine hK.out _ _ (fun _ => HBX.out _ (hb5.trans (hbv50.mono hb5.size))) (fun hHeld => ?_)
        replace hHeld := hHeld (by kernel_rfl)
        clear hK K'
        try simp only [Act.put, List.setIfInBounds_toArray, List.set_cons_zero, List.set_cons_succ]
        try simp only [Nat.zero_add]
        refine OrdU.wpAnyU_ready (rs := [8]) (by kernel_rfl) (by simp) ?_
        refine (OrdU.AllReadyU.cons (o := ⟨some 58, _, _, _, _, none⟩) rfl (fun K' hK => ?_) OrdU.AllReadyU.nil)
        refine step_append_lies _ (by rfl) _ _ _ (by rfl) w5.heap.size 3 ig _ 1 8 Try.underlying22 hig hz0 hz1 hz2 rfl (by omega) _ vs.length (icells vs) (by rfl) hR5v50 ⟨v0.heap.size, 0, none⟩ 1 1 [.int .i64 t] (by rfl) (by rfl) (World.news_of_block (cs := #[.int .i64 t]) (t := 3) (fr := (0, 0)) bCv50) (by simp [Value.oneCell']) (by omega) (by simp only [maxLen]; omega) (by omega) (hbv50.size) (v50.heap.size) rfl ?_
        intro g8 cap8 v51 hR8v51 hgrow hat hlt
        have hbv51 := hbv50.grown hgrow (hbv50.size) (fun k e => ((hR5v50).lt k e).1)
        have hsv51 := Lib.hid (hgrow.size)
        have hg8 := Lib.hid (show g8 = g5 ∨ g8 = v50.heap.size from by rcases hat with q | q; (exact .inl (Option.some.inj q).symm); exact .inr q)
        have hl8 := Lib.hid (hR8v51.lt _ rfl).2
        have bDv51 := (bDv50).grown hgrow (fun hq => absurd (show v35.heap.size = g5 from Option.some.inj hq) (by have a0 := hsv0.out; have a1 := hsv35.out; have a2 := hsv48.out; have a3 := hsv49.out; have a4 := hsv50.out; have a5 := hg5.out; have a6 := hl5.out; have a7 := hl6.out; omega))
        clear hgrow hat
        refine hK.out _ _ (fun _ => HBX.out _ (hb5.trans (hbv51.mono hb5.size))) (fun hHeld => ?_)
        replace hHeld := hHeld (by kernel_rfl)
        clear hK K'
        try simp only [Act.put, List.setIfInBounds_toArray, List.set_cons_zero, List.set_cons_succ]
        refine OrdU.wpAnyU_take (i := 11) (oi := ⟨some 61, _, _, _, _, none⟩) (v := ?_) rfl (by kernel_rfl) (by kernel_rfl) (by kernel_rfl) (by decide) (by kernel_rfl) (fun _ _ _ h => h) (Or.inl ⟨by rfl, ?_⟩) (by assumption) ?_
        rotate_left
        · (intro w hSw; (try dsimp only at hSw); go_simp; (try with_reducible rfl))
        try simp only [Act.put, List.setIfInBounds_toArray, List.set_cons_zero, List.set_cons_succ]
        refine OrdU.wpAnyU_ready (rs := [13]) (by kernel_rfl) (by simp) ?_
        refine (OrdU.AllReadyU.cons (o := ⟨none, _, _, _, _, none⟩) rfl (fun K' hK => ?_) OrdU.AllReadyU.nil)
        obtain ⟨z0, z1, z2⟩ := (bDv51).three
        have f0 := (bDv51).frozen 0
        have f1 := (bDv51).frozen 1
        have f2 := (bDv51).frozen 2
        go_simp
        have hgD := (show w5.heap.size ≤ v35.heap.size from (by have a0 := hsv0.out; have a1 := hsv35.out; have a2 := hsv48.out; have a3 := hsv49.out; have a4 := hsv50.out; have a5 := hg5.out; have a6 := hl5.out; have a7 := hl6.out; have a8 := hsv51.out; have a9 := hg8.out; have a10 := hl8.out; omega))
        have bN : Blk (((v51.setCell ⟨v35.heap.size, 0, none⟩ (.int .i64 ps)).setCell ⟨v35.heap.size, 1, none⟩ (.slice (some ⟨g8, 0, none⟩) (vs.length + 1) cap8)).setCell ⟨v35.heap.size, 2, none⟩ (.slice B xs.length ce)) v35.heap.size 25 #[.int .i64 ps, .slice (some ⟨g8, 0, none⟩) (vs.length + 1) cap8, .slice B xs.length ce] := (((bDv51).set 0 (.int .i64 ps)).set 1 (.slice (some ⟨g8, 0, none⟩) (vs.length + 1) cap8)).set 2 (.slice B xs.length ce)
        have hbN := ((hbv51.setCell (p := ⟨v35.heap.size, 0, none⟩) hgD (.int .i64 ps)).setCell (p := ⟨v35.heap.size, 1, none⟩) hgD (.slice (some ⟨g8, 0, none⟩) (vs.length + 1) cap8)).setCell (p := ⟨v35.heap.size, 2, none⟩) hgD (.slice B xs.length ce)
        have hIN : IRow (((v51.setCell ⟨v35.heap.size, 0, none⟩ (.int .i64 ps)).setCell ⟨v35.heap.size, 1, none⟩ (.slice (some ⟨g8, 0, none⟩) (vs.length + 1) cap8)).setCell ⟨v35.heap.size, 2, none⟩ (.slice B xs.length ce)) (((v51.setCell ⟨v35.heap.size, 0, none⟩ (.int .i64 ps)).setCell ⟨v35.heap.size, 1, none⟩ (.slice (some ⟨g8, 0, none⟩) (vs.length + 1) cap8)).setCell ⟨v35.heap.size, 2, none⟩ (.slice B xs.length ce)).heap.size (some ⟨g8, 0, none⟩) (vs ++ [t]) := row_far3 (row_ints (icells_snoc vs t ▸ hR8v51)) (show g8 ≠ v35.heap.size from (by have a0 := hsv0.out; have a1 := hsv35.out; have a2 := hsv48.out; have a3 := hsv49.out; have a4 := hsv50.out; have a5 := hg5.out; have a6 := hl5.out; have a7 := hl6.out; have a8 := hsv51.out; have a9 := hg8.out; have a10 := hl8.out; omega)) _ _ _
        have hcp := own_cap2 hR8v51
        clear z0 z1 z2 f0 f1 f2
        refine hK.out _ _ (OrdU.no (by kernel_rfl)) (fun _ => ?_)
        clear hK K'
        try simp only [Act.put, List.setIfInBounds_toArray, List.set_cons_zero, List.set_cons_succ]
        refine OrdU.wpAnyU_done (by kernel_rfl) ?_ _
        go_wp2_with fail
        go_meet
        exact ⟨_, g8, cap8, rfl, hbN, hgD, bN, hIN, hcp⟩
    · go_simp
      have hbv53 := hbv0.alloc (hbv0.size) (.cells #[.int .i64 0, .slice none 0 0, .slice none 0 0] 25)
      have bDv53 : Blk (v0.alloc (.cells #[.int .i64 0, .slice none 0 0, .slice none 0 0] 25)) v0.heap.size 25 #[.int .i64 0, .slice none 0 0, .slice none 0 0] := Blk.new v0 _ _
      have hsv53 : (v0.alloc (.cells #[.int .i64 0, .slice none 0 0, .slice none 0 0] 25)).heap.size = v0.heap.size + 1 := World.size_alloc _ _
      refine hK.out _ _ (fun _ => HBX.out _ (hb5.trans (hbv53.mono hb5.size))) (fun hHeld => ?_)
      replace hHeld := hHeld (by kernel_rfl)
      clear hK K'
      try simp only [Act.put, List.setIfInBounds_toArray, List.set_cons_zero, List.set_cons_succ]
      obtain ⟨v53, ev53⟩ : ∃ x, v0.alloc (.cells #[.int .i64 0, .slice none 0 0, .slice none 0 0] 25) = x := ⟨_, rfl⟩
      rw [ev53] at hbv53 bDv53 hsv53 hHeld ⊢
      clear ev53
      replace hsv53 := Lib.hid hsv53
      refine OrdU.wpAnyU_ready (rs := [2, 7]) (by kernel_rfl) (by simp) ?_
      refine (OrdU.AllReadyU.cons (o := ⟨some 52, _, _, _, _, none⟩) rfl (fun K' hK => ?_) (OrdU.AllReadyU.cons (o := ⟨some 57, _, _, _, _, none⟩) rfl (fun K' hK => ?_) OrdU.AllReadyU.nil))
      · go_simp
        have hbv54 := hbv53.alloc (hbv53.size) (.cells #[] 3)
        have bEv54 : Blk (v53.alloc (.cells #[] 3)) v53.heap.size 3 #[] := Blk.new v53 _ _
        have hsv54 : (v53.alloc (.cells #[] 3)).heap.size = v53.heap.size + 1 := World.size_alloc _ _
        have bDv54 := (bDv53).alloc (.cells #[] 3)
        refine hK.out _ _ (fun _ => HBX.out _ (hb5.trans (hbv54.mono hb5.size))) (fun hHeld => ?_)
        replace hHeld := hHeld (by kernel_rfl)
        clear hK K'
        try simp only [Act.put, List.setIfInBounds_toArray, List.set_cons_zero, List.set_cons_succ]
        obtain ⟨v54, ev54⟩ : ∃ x, v53.alloc (.cells #[] 3) = x := ⟨_, rfl⟩
        rw [ev54] at hbv54 bEv54 hsv54 bDv54 hHeld ⊢
        clear ev54
        replace hsv54 := Lib.hid hsv54
        refine OrdU.wpAnyU_ready (rs := [5, 7]) (by kernel_rfl) (by simp) ?_
        refine (OrdU.AllReadyU.cons (o := ⟨some 55, _, _, _, _, none⟩) rfl (fun K' hK => ?_) (OrdU.AllReadyU.cons (o := ⟨some 57, _, _, _, _, none⟩) rfl (fun K' hK => ?_) OrdU.AllReadyU.nil))
        · have hPw := (HP.out.at (hb5.trans (hbv54.mono hb5.size))).ok q1 q2
          refine step_append_lies _ (by rfl) _ _ _ (by rfl) w5.heap.size 3 ig _ 1 8 Try.underlying22 hig hz0 hz1 hz2 rfl (by omega) _ 0 [] (by rfl) (row0 (base := w5.heap.size) bEv54 (show w5.heap.size ≤ v53.heap.size from (by have a0 := hsv0.out; have a1 := hsv53.out; have a2 := hsv54.out; omega))) ad5 vs.length c0 (icells vs) (by rfl) (by simp [icells]) (row_news hPw.vars) (ints_oneCell .i64 vs) hv0 (by simp only [maxLen]; omega) (by omega) (hbv54.size) (v54.heap.size) rfl ?_
          intro g5 cap5 v55 hR5v55 hgrow hat hlt
          rw [Nat.zero_add, List.nil_append] at hR5v55
          have hbv55 := hbv54.grown hgrow (hbv54.size) (fun k e => by cases e; exact (show w5.heap.size ≤ v53.heap.size from (by have a0 := hsv0.out; have a1 := hsv53.out; have a2 := hsv54.out; omega)))
          have hsv55 := Lib.hid (hgrow.size)
          have hg5 := Lib.hid (show g5 = v53.heap.size ∨ g5 = v54.heap.size from by rcases hat with q | q; (exact .inl (Option.some.inj q).symm); exact .inr q)
          have hl5 := Lib.hid (hR5v55.lt _ rfl).2
          have hl6 := Lib.hid (hR5v55.lt _ rfl).1
          have bDv55 := (bDv54).grown hgrow (fun hq => absurd (show v0.heap.size = v53.heap.size from Option.some.inj hq) (by have a0 := hsv0.out; have a1 := hsv53.out; have a2 := hsv54.out; omega))
          clear hgrow hat
          refine hK.out _ _ (fun _ => HBX.out _ (hb5.trans (hbv55.mono hb5.size))) (fun hHeld => ?_)
          replace hHeld := hHeld (by kernel_rfl)
          clear hK K'
          try simp only [Act.put, List.setIfInBounds_toArray, List.set_cons_zero, List.set_cons_succ]
          try simp only [Nat.zero_add]
          refine OrdU.wpAnyU_ready (rs := [7]) (by kernel_rfl) (by simp) ?_
          refine (OrdU.AllReadyU.cons (o := ⟨some 57, _, _, _, _, none⟩) rfl (fun K' hK => ?_) OrdU.AllReadyU.nil)
          go_simp
          have hbv56 := hbv55.alloc (hbv55.size) (.cells #[.int .i64 t] 3)
          have bCv56 : Blk (v55.alloc (.cells #[.int .i64 t] 3)) v55.heap.size 3 #[.int .i64 t] := Blk.new v55 _ _
          have hsv56 : (v55.alloc (.cells #[.int .i64 t] 3)).heap.size = v55.heap.size + 1 := World.size_alloc _ _
          have bDv56 := (bDv55).alloc (.cells #[.int .i64 t] 3)
          have hR5v56 := (hR5v55).alloc (.cells #[.int .i64 t] 3)
          refine hK.out _ _ (fun _ => HBX.out _ (hb5.trans (hbv56.mono hb5.size))) (fun hHeld => ?_)
          replace hHeld := hHeld (by kernel_rfl)
          clear hK K'
          try simp only [Act.put, List.setIfInBounds_toArray, List.set_cons_zero, List.set_cons_succ]
          obtain ⟨v56, ev56⟩ : ∃ x, v55.alloc (.cells #[.int .i64 t] 3) = x := ⟨_, rfl⟩
          rw [ev56] at hbv56 bCv56 hsv56 bDv56 hR5v56 hHeld ⊢
          clear ev56
          replace hsv56 := Lib.hid hsv56
          refine OrdU.wpAnyU_ready (rs := [8]) (by kernel_rfl) (by simp) ?_
          refine (OrdU.AllReadyU.cons (o := ⟨some 58, _, _, _, _, none⟩) rfl (fun K' hK => ?_) OrdU.AllReadyU.nil)
          refine step_append_lies _ (by rfl) _ _ _ (by rfl) w5.heap.size 3 ig _ 1 8 Try.underlying22 hig hz0 hz1 hz2 rfl (by omega) _ vs.length (icells vs) (by rfl) hR5v56 ⟨v55.heap.size, 0, none⟩ 1 1 [.int .i64 t] (by rfl) (by rfl) (World.news_of_block (cs := #[.int .i64 t]) (t := 3) (fr := (0, 0)) bCv56) (by simp [Value.oneCell']) (by omega) (by simp only [maxLen]; omega) (by omega) (hbv56.size) (v56.heap.size) rfl ?_
          intro g8 cap8 v57 hR8v57 hgrow hat hlt
          have hbv57 := hbv56.grown hgrow (hbv56.size) (fun k e => ((hR5v56).lt k e).1)
          have hsv57 := Lib.hid (hgrow.size)
          have hg8 := Lib.hid (show g8 = g5 ∨ g8 = v56.heap.size from by rcases hat with q | q; (exact .inl (Option.some.inj q).symm); exact .inr q)
          have hl8 := Lib.hid (hR8v57.lt _ rfl).2
          have bDv57 := (bDv56).grown hgrow (fun hq => absurd (show v0.heap.size = g5 from Option.some.inj hq) (by have a0 := hsv0.out; have a1 := hsv53.out; have a2 := hsv54.out; have a3 := hsv55.out; have a4 := hg5.out; have a5 := hl5.out; have a6 := hl6.out; have a7 := hsv56.out; omega))
          clear hgrow hat
          refine hK.out _ _ (fun _ => HBX.out _ (hb5.trans (hbv57.mono hb5.size))) (fun hHeld => ?_)
          replace hHeld := hHeld (by kernel_rfl)
          clear hK K'
          try simp only [Act.put, List.setIfInBounds_toArray, List.set_cons_zero, List.set_cons_succ]
          refine OrdU.wpAnyU_take (i := 11) (oi := ⟨some 61, _, _, _, _, none⟩) (v := ?_) rfl (by kernel_rfl) (by kernel_rfl) (by kernel_rfl) (by decide) (by kernel_rfl) (fun _ _ _ h => h) (Or.inl ⟨by rfl, ?_⟩) (by assumption) ?_
          rotate_left
          · (intro w hSw; (try dsimp only at hSw); go_simp; (try with_reducible rfl))
          try simp only [Act.put, List.setIfInBounds_toArray, List.set_cons_zero, List.set_cons_succ]
          refine OrdU.wpAnyU_ready (rs := [13]) (by kernel_rfl) (by simp) ?_
          refine (OrdU.AllReadyU.cons (o := ⟨none, _, _, _, _, none⟩) rfl (fun K' hK => ?_) OrdU.AllReadyU.nil)
          obtain ⟨z0, z1, z2⟩ := (bDv57).three
          have f0 := (bDv57).frozen 0
          have f1 := (bDv57).frozen 1
          have f2 := (bDv57).frozen 2
          go_simp
          have hgD := (show w5.heap.size ≤ v0.heap.size from (by have a0 := hsv0.out; have a1 := hsv53.out; have a2 := hsv54.out; have a3 := hsv55.out; have a4 := hg5.out; have a5 := hl5.out; have a6 := hl6.out; have a7 := hsv56.out; have a8 := hsv57.out; have a9 := hg8.out; have a10 := hl8.out; omega))
          have bN : Blk (((v57.setCell ⟨v0.heap.size, 0, none⟩ (.int .i64 ps)).setCell ⟨v0.heap.size, 1, none⟩ (.slice (some ⟨g8, 0, none⟩) (vs.length + 1) cap8)).setCell ⟨v0.heap.size, 2, none⟩ (.slice B xs.length ce)) v0.heap.size 25 #[.int .i64 ps, .slice (some ⟨g8, 0, none⟩) (vs.length + 1) cap8, .slice B xs.length ce] := (((bDv57).set 0 (.int .i64 ps)).set 1 (.slice (some ⟨g8, 0, none⟩) (vs.length + 1) cap8)).set 2 (.slice B xs.length ce)
          have hbN := ((hbv57.setCell (p := ⟨v0.heap.size, 0, none⟩) hgD (.int .i64 ps)).setCell (p := ⟨v0.heap.size, 1, none⟩) hgD (.slice (some ⟨g8, 0, none⟩) (vs.length + 1) cap8)).setCell (p := ⟨v0.heap.size, 2, none⟩) hgD (.slice B xs.length ce)
          have hIN : IRow (((v57.setCell ⟨v0.heap.size, 0, none⟩ (.int .i64 ps)).setCell ⟨v0.heap.size, 1, none⟩ (.slice (some ⟨g8, 0, none⟩) (vs.length + 1) cap8)).setCell ⟨v0.heap.size, 2, none⟩ (.slice B xs.length ce)) (((v57.setCell ⟨v0.heap.size, 0, none⟩ (.int .i64 ps)).setCell ⟨v0.heap.size, 1, none⟩ (.slice (some ⟨g8, 0, none⟩) (vs.length + 1) cap8)).setCell ⟨v0.heap.size, 2, none⟩ (.slice B xs.length ce)).heap.size (some ⟨g8, 0, none⟩) (vs ++ [t]) := row_far3 (row_ints (icells_snoc vs t ▸ hR8v57)) (show g8 ≠ v0.heap.size from (by have a0 := hsv0.out; have a1 := hsv53.out; have a2 := hsv54.out; have a3 := hsv55.out; have a4 := hg5.out; have a5 := hl5.out; have a6 := hl6.out; have a7 := hsv56.out; have a8 := hsv57.out; have a9 := hg8.out; have a10 := hl8.out; omega)) _ _ _
          have hcp := own_cap2 hR8v57
          clear z0 z1 z2 f0 f1 f2
          refine hK.out _ _ (OrdU.no (by kernel_rfl)) (fun _ => ?_)
          clear hK K'
          try simp only [Act.put, List.setIfInBounds_toArray, List.set_cons_zero, List.set_cons_succ]
          refine OrdU.wpAnyU_done (by kernel_rfl) ?_ _
          go_wp2_with fail
          go_meet
          exact ⟨_, g8, cap8, rfl, hbN, hgD, bN, hIN, hcp⟩
        · go_simp
          have hbv59 := hbv54.alloc (hbv54.size) (.cells #[.int .i64 t] 3)
          have bCv59 : Blk (v54.alloc (.cells #[.int .i64 t] 3)) v54.heap.size 3 #[.int .i64 t] := Blk.new v54 _ _
          have hsv59 : (v54.alloc (.cells #[.int .i64 t] 3)).heap.size = v54.heap.size + 1 := World.size_alloc _ _
          have bEv59 := (bEv54).alloc (.cells #[.int .i64 t] 3)
          have bDv59 := (bDv54).alloc (.cells #[.int .i64 t] 3)
          refine hK.out _ _ (fun _ => HBX.out _ (hb5.trans (hbv59.mono hb5.size))) (fun hHeld => ?_)
          replace hHeld := hHeld (by kernel_rfl)
          clear hK K'
          try simp only [Act.put, List.setIfInBounds_toArray, List.set_cons_zero, List.set_cons_succ]
          obtain ⟨v59, ev59⟩ : ∃ x, v54.alloc (.cells #[.int .i64 t] 3) = x := ⟨_, rfl⟩
          rw [ev59] at hbv59 bCv59 hsv59 bEv59 bDv59 hHeld ⊢
          clear ev59
          replace hsv59 := Lib.hid hsv59
          refine OrdU.wpAnyU_ready (rs := [5]) (by kernel_rfl) (by simp) ?_
          refine (OrdU.AllReadyU.cons (o := ⟨some 55, _, _, _, _, none⟩) rfl (fun K' hK => ?_) OrdU.AllReadyU.nil)
          have hPw := (HP.out.at (hb5.trans (hbv59.mono hb5.size))).ok q1 q2
          refine step_append_lies _ (by rfl) _ _ _ (by rfl) w5.heap.size 3 ig _ 1 8 Try.underlying22 hig hz0 hz1 hz2 rfl (by omega) _ 0 [] (by rfl) (row0 (base := w5.heap.size) bEv59 (show w5.heap.size ≤ v53.heap.size from (by have a0 := hsv0.out; have a1 := hsv53.out; have a2 := hsv54.out; have a3 := hsv59.out; omega))) ad5 vs.length c0 (icells vs) (by rfl) (by simp [icells]) (row_news hPw.vars) (ints_oneCell .i64 vs) hv0 (by simp only [maxLen]; omega) (by omega) (hbv59.size) (v59.heap.size) rfl ?_
          intro g5 cap5 v60 hR5v60 hgrow hat hlt
          rw [Nat.zero_add, List.nil_append] at hR5v60
          have hbv60 := hbv59.grown hgrow (hbv59.size) (fun k e => by cases e; exact (show w5.heap.size ≤ v53.heap.size from (by have a0 := hsv0.out; have a1 := hsv53.out; have a2 := hsv54.out; have a3 := hsv59.out; omega)))
          have hsv60 := Lib.hid (hgrow.size)
          have hg5 := Lib.hid (show g5 = v53.heap.size ∨ g5 = v59.heap.size from by rcases hat with q | q; (exact .inl (Option.some.inj q).symm); exact .inr q)
          have hl5 := Lib.hid (hR5v60.lt _ rfl).2
          have hl6 := Lib.hid (hR5v60.lt _ rfl).1
          have bCv60 := (bCv59).grown hgrow (fun hq => absurd (show v54.heap.size = v53.heap.size from Option.some.inj hq) (by have a0 := hsv0.out; have a1 := hsv53.out; have a2 := hsv54.out; have a3 := hsv59.out; omega))
          have bDv60 := (bDv59).grown hgrow (fun hq => absurd (show v0.heap.size = v53.heap.size from Option.some.inj hq) (by have a0 := hsv0.out; have a1 := hsv53.out; have a2 := hsv54.out; have a3 := hsv59.out; omega))
          clear hgrow hat
          refine hK.out _ _ (fun _ => HBX.out _ (hb5.trans (hbv60.mono hb5.size))) (fun hHeld => ?_)
          replace hHeld := hHeld (by kernel_rfl)
          clear hK K'
          try simp only [Act.put, List.setIfInBounds_toArray, List.set_cons_zero, List.set_cons_succ]
          try simp only [Nat.zero_add]
          refine OrdU.wpAnyU_ready (rs := [8]) (by kernel_rfl) (by simp) ?_
          refine (OrdU.AllReadyU.cons (o := ⟨some 58, _, _, _, _, none⟩) rfl (fun K' hK => ?_) OrdU.AllReadyU.nil)
          refine step_append_lies _ (by rfl) _ _ _ (by rfl) w5.heap.size 3 ig _ 1 8 Try.underlying22 hig hz0 hz1 hz2 rfl (by omega) _ vs.length (icells vs) (by rfl) hR5v60 ⟨v54.heap.size, 0, none⟩ 1 1 [.int .i64 t] (by rfl) (by rfl) (World.news_of_block (cs := #[.int .i64 t]) (t := 3) (fr := (0, 0)) bCv60) (by simp [Value.oneCell']) (by omega) (by simp only [maxLen]; omega) (by omega) (hbv60.size) (v60.heap.size) rfl ?_
          intro g8 cap8 v61 hR8v61 hgrow hat hlt
          have hbv61 := hbv60.grown hgrow (hbv60.size) (fun k e => ((hR5v60).lt k e).1)
          have hsv61 := Lib.hid (hgrow.size)
          have hg8 := Lib.hid (show g8 = g5 ∨ g8 = v60.heap.size from by rcases hat with q | q; (exact .inl (Option.some.inj q).symm); exact .inr q)
          have hl8 := Lib.hid (hR8v61.lt _ rfl).2
          have bDv61 := (bDv60).grown hgrow (fun hq => absurd (show v0.heap.size = g5 from Option.some.inj hq) (by have a0 := hsv0.out; have a1 := hsv53.out; have a2 := hsv54.out; have a3 := hsv59.out; have a4 := hsv60.out; have a5 := hg5.out; have a6 := hl5.out; have a7 := hl6.out; omega))
          clear hgrow hat
          refine hK.out _ _ (fun _ => HBX.out _ (hb5.trans (hbv61.mono hb5.size))) (fun hHeld => ?_)
          replace hHeld := hHeld (by kernel_rfl)
          clear hK K'
          try simp only [Act.put, List.setIfInBounds_toArray, List.set_cons_zero, List.set_cons_succ]
          refine OrdU.wpAnyU_take (i := 11) (oi := ⟨some 61, _, _, _, _, none⟩) (v := ?_) rfl (by kernel_rfl) (by kernel_rfl) (by kernel_rfl) (by decide) (by kernel_rfl) (fun _ _ _ h => h) (Or.inl ⟨by rfl, ?_⟩) (by assumption) ?_
          rotate_left
          · (intro w hSw; (try dsimp only at hSw); go_simp; (try with_reducible rfl))
          try simp only [Act.put, List.setIfInBounds_toArray, List.set_cons_zero, List.set_cons_succ]
          refine OrdU.wpAnyU_ready (rs := [13]) (by kernel_rfl) (by simp) ?_
          refine (OrdU.AllReadyU.cons (o := ⟨none, _, _, _, _, none⟩) rfl (fun K' hK => ?_) OrdU.AllReadyU.nil)
          obtain ⟨z0, z1, z2⟩ := (bDv61).three
          have f0 := (bDv61).frozen 0
          have f1 := (bDv61).frozen 1
          have f2 := (bDv61).frozen 2
          go_simp
          have hgD := (show w5.heap.size ≤ v0.heap.size from (by have a0 := hsv0.out; have a1 := hsv53.out; have a2 := hsv54.out; have a3 := hsv59.out; have a4 := hsv60.out; have a5 := hg5.out; have a6 := hl5.out; have a7 := hl6.out; have a8 := hsv61.out; have a9 := hg8.out; have a10 := hl8.out; omega))
          have bN : Blk (((v61.setCell ⟨v0.heap.size, 0, none⟩ (.int .i64 ps)).setCell ⟨v0.heap.size, 1, none⟩ (.slice (some ⟨g8, 0, none⟩) (vs.length + 1) cap8)).setCell ⟨v0.heap.size, 2, none⟩ (.slice B xs.length ce)) v0.heap.size 25 #[.int .i64 ps, .slice (some ⟨g8, 0, none⟩) (vs.length + 1) cap8, .slice B xs.length ce] := (((bDv61).set 0 (.int .i64 ps)).set 1 (.slice (some ⟨g8, 0, none⟩) (vs.length + 1) cap8)).set 2 (.slice B xs.length ce)
          have hbN := ((hbv61.setCell (p := ⟨v0.heap.size, 0, none⟩) hgD (.int .i64 ps)).setCell (p := ⟨v0.heap.size, 1, none⟩) hgD (.slice (some ⟨g8, 0, none⟩) (vs.length + 1) cap8)).setCell (p := ⟨v0.heap.size, 2, none⟩) hgD (.slice B xs.length ce)
          have hIN : IRow (((v61.setCell ⟨v0.heap.size, 0, none⟩ (.int .i64 ps)).setCell ⟨v0.heap.size, 1, none⟩ (.slice (some ⟨g8, 0, none⟩) (vs.length + 1) cap8)).setCell ⟨v0.heap.size, 2, none⟩ (.slice B xs.length ce)) (((v61.setCell ⟨v0.heap.size, 0, none⟩ (.int .i64 ps)).setCell ⟨v0.heap.size, 1, none⟩ (.slice (some ⟨g8, 0, none⟩) (vs.length + 1) cap8)).setCell ⟨v0.heap.size, 2, none⟩ (.slice B xs.length ce)).heap.size (some ⟨g8, 0, none⟩) (vs ++ [t]) := row_far3 (row_ints (icells_snoc vs t ▸ hR8v61)) (show g8 ≠ v0.heap.size from (by have a0 := hsv0.out; have a1 := hsv53.out; have a2 := hsv54.out; have a3 := hsv59.out; have a4 := hsv60.out; have a5 := hg5.out; have a6 := hl5.out; have a7 := hl6.out; have a8 := hsv61.out; have a9 := hg8.out; have a10 := hl8.out; omega)) _ _ _
          have hcp := own_cap2 hR8v61
          clear z0 z1 z2 f0 f1 f2
          refine hK.out _ _ (OrdU.no (by kernel_rfl)) (fun _ => ?_)
          clear hK K'
          try simp only [Act.put, List.setIfInBounds_toArray, List.set_cons_zero, List.set_cons_succ]
          refine OrdU.wpAnyU_done (by kernel_rfl) ?_ _
          go_wp2_with fail
          go_meet
          exact ⟨_, g8, cap8, rfl, hbN, hgD, bN, hIN, hcp⟩
      · go_simp
        have hbv63 := hbv53.alloc (hbv53.size) (.cells #[.int .i64 t] 3)
        have bCv63 : Blk (v53.alloc (.cells #[.int .i64 t] 3)) v53.heap.size 3 #[.int .i64 t] := Blk.new v53 _ _
        have hsv63 : (v53.alloc (.cells #[.int .i64 t] 3)).heap.size = v53.heap.size + 1 := World.size_alloc _ _
        have bDv63 := (bDv53).alloc (.cells #[.int .i64 t] 3)
        refine hK.out _ _ (fun _ => HBX.out _ (hb5.trans (hbv63.mono hb5.size))) (fun hHeld => ?_)
        replace hHeld := hHeld (by kernel_rfl)
        clear hK K'
        try simp only [Act.put, List.setIfInBounds_toArray, List.set_cons_zero, List.set_cons_succ]
        obtain ⟨v63, ev63⟩ : ∃ x, v53.alloc (.cells #[.int .i64 t] 3) = x := ⟨_, rfl⟩
        rw [ev63] at hbv63 bCv63 hsv63 bDv63 hHeld ⊢
        clear ev63
        replace hsv63 := Lib.hid hsv63
        refine OrdU.wpAnyU_ready (rs := [2]) (by kernel_rfl) (by simp) ?_
        refine (OrdU.AllReadyU.cons (o := ⟨some 52, _, _, _, _, none⟩) rfl (fun K' hK => ?_) OrdU.AllReadyU.nil)
        go_simp
        have hbv64 := hbv63.alloc (hbv63.size) (.cells #[] 3)
        have bEv64 : Blk (v63.alloc (.cells #[] 3)) v63.heap.size 3 #[] := Blk.new v63 _ _
        have hsv64 : (v63.alloc (.cells #[] 3)).heap.size = v63.heap.size + 1 := World.size_alloc _ _
        have bCv64 := (bCv63).alloc (.cells #[] 3)
        have bDv64 := (bDv63).alloc (.cells #[] 3)
        refine hK.out _ _ (fun _ => HBX.out _ (hb5.trans (hbv64.mono hb5.size))) (fun hHeld => ?_)
        replace hHeld := hHeld (by kernel_rfl)
        clear hK K'
        try simp only [Act.put, List.setIfInBounds_toArray, List.set_cons_zero, List.set_cons_succ]
        obtain ⟨v64, ev64⟩ : ∃ x, v63.alloc (.cells #[] 3) = x := ⟨_, rfl⟩
        rw [ev64] at hbv64 bEv64 hsv64 bCv64 bDv64 hHeld ⊢
        clear ev64
        replace hsv64 := Lib.hid hsv64
        refine OrdU.wpAnyU_ready (rs := [5]) (by kernel_rfl) (by simp) ?_
        refine (OrdU.AllReadyU.cons (o := ⟨some 55, _, _, _, _, none⟩) rfl (fun K' hK => ?_) OrdU.AllReadyU.nil)
        have hPw := (HP.out.at (hb5.trans (hbv64.mono hb5.size))).ok q1 q2
        refine step_append_lies _ (by rfl) _ _ _ (by rfl) w5.heap.size 3 ig _ 1 8 Try.underlying22 hig hz0 hz1 hz2 rfl (by omega) _ 0 [] (by rfl) (row0 (base := w5.heap.size) bEv64 (show w5.heap.size ≤ v63.heap.size from (by have a0 := hsv0.out; have a1 := hsv53.out; have a2 := hsv63.out; have a3 := hsv64.out; omega))) ad5 vs.length c0 (icells vs) (by rfl) (by simp [icells]) (row_news hPw.vars) (ints_oneCell .i64 vs) hv0 (by simp only [maxLen]; omega) (by omega) (hbv64.size) (v64.heap.size) rfl ?_
        intro g5 cap5 v65 hR5v65 hgrow hat hlt
        rw [Nat.zero_add, List.nil_append] at hR5v65
        have hbv65 := hbv64.grown hgrow (hbv64.size) (fun k e => by cases e; exact (show w5.heap.size ≤ v63.heap.size from (by have a0 := hsv0.out; have a1 := hsv53.out; have a2 := hsv63.out; have a3 := hsv64.out; omega)))
        have hsv65 := Lib.hid (hgrow.size)
        have hg5 := Lib.hid (show g5 = v63.heap.size ∨ g5 = v64.heap.size from by rcases hat with q | q; (exact .inl (Option.some.inj q).symm); exact .inr q)
        have hl5 := Lib.hid (hR5v65.lt _ rfl).2
        have hl6 := Lib.hid (hR5v65.lt _ rfl).1
        have bCv65 := (bCv64).grown hgrow (fun hq => absurd (show v53.heap.size = v63.heap.size from Option.some.inj hq) (by have a0 := hsv0.out; have a1 := hsv53.out; have a2 := hsv63.out; have a3 := hsv64.out; omega))
        have bDv65 := (bDv64).grown hgrow (fun hq => absurd (show v0.heap.size = v63.heap.size from Option.some.inj hq) (by have a0 := hsv0.out; have a1 := hsv53.out; have a2 := hsv63.out; have a3 := hsv64.out; omega))
        clear hgrow hat
        refine hK.out _ _ (fun _ => HBX.out _ (hb5.trans (hbv65.mono hb5.size))) (fun hHeld => ?_)
        replace hHeld := hHeld (by kernel_rfl)
        clear hK K'
        try simp only [Act.put, List.setIfInBounds_toArray, List.set_cons_zero, List.set_cons_succ]
        try simp only [Nat.zero_add]
        refine OrdU.wpAnyU_ready (rs := [8]) (by kernel_rfl) (by simp) ?_
        refine (OrdU.AllReadyU.cons (o := ⟨some 58, _, _, _, _, none⟩) rfl (fun K' hK => ?_) OrdU.AllReadyU.nil)
        refine step_append_lies _ (by rfl) _ _ _ (by rfl) w5.heap.size 3 ig _ 1 8 Try.underlying22 hig hz0 hz1 hz2 rfl (by omega) _ vs.length (icells vs) (by rfl) hR5v65 ⟨v53.heap.size, 0, none⟩ 1 1 [.int .i64 t] (by rfl) (by rfl) (World.news_of_block (cs := #[.int .i64 t]) (t := 3) (fr := (0, 0)) bCv65) (by simp [Value.oneCell']) (by omega) (by simp only [maxLen]; omega) (by omega) (hbv65.size) (v65.heap.size) rfl ?_
        intro g8 cap8 v66 hR8v66 hgrow hat hlt
        have hbv66 := hbv65.grown hgrow (hbv65.size) (fun k e => ((hR5v65).lt k e).1)
        have hsv66 := Lib.hid (hgrow.size)
        have hg8 := Lib.hid (show g8 = g5 ∨ g8 = v65.heap.size from by rcases hat with q | q; (exact .inl (Option.some.inj q).symm); exact .inr q)
        have hl8 := Lib.hid (hR8v66.lt _ rfl).2
        have bDv66 := (bDv65).grown hgrow (fun hq => absurd (show v0.heap.size = g5 from Option.some.inj hq) (by have a0 := hsv0.out; have a1 := hsv53.out; have a2 := hsv63.out; have a3 := hsv64.out; have a4 := hsv65.out; have a5 := hg5.out; have a6 := hl5.out; have a7 := hl6.out; omega))
        clear hgrow hat
        refine hK.out _ _ (fun _ => HBX.out _ (hb5.trans (hbv66.mono hb5.size))) (fun hHeld => ?_)
        replace hHeld := hHeld (by kernel_rfl)
        clear hK K'
        try simp only [Act.put, List.setIfInBounds_toArray, List.set_cons_zero, List.set_cons_succ]
        refine OrdU.wpAnyU_take (i := 11) (oi := ⟨some 61, _, _, _, _, none⟩) (v := ?_) rfl (by kernel_rfl) (by kernel_rfl) (by kernel_rfl) (by decide) (by kernel_rfl) (fun _ _ _ h => h) (Or.inl ⟨by rfl, ?_⟩) (by assumption) ?_
        rotate_left
        · (intro w hSw; (try dsimp only at hSw); go_simp; (try with_reducible rfl))
        try simp only [Act.put, List.setIfInBounds_toArray, List.set_cons_zero, List.set_cons_succ]
        refine OrdU.wpAnyU_ready (rs := [13]) (by kernel_rfl) (by simp) ?_
        refine (OrdU.AllReadyU.cons (o := ⟨none, _, _, _, _, none⟩) rfl (fun K' hK => ?_) OrdU.AllReadyU.nil)
        obtain ⟨z0, z1, z2⟩ := (bDv66).three
        have f0 := (bDv66).frozen 0
        have f1 := (bDv66).frozen 1
        have f2 := (bDv66).frozen 2
        go_simp
        have hgD := (show w5.heap.size ≤ v0.heap.size from (by have a0 := hsv0.out; have a1 := hsv53.out; have a2 := hsv63.out; have a3 := hsv64.out; have a4 := hsv65.out; have a5 := hg5.out; have a6 := hl5.out; have a7 := hl6.out; have a8 := hsv66.out; have a9 := hg8.out; have a10 := hl8.out; omega))
        have bN : Blk (((v66.setCell ⟨v0.heap.size, 0, none⟩ (.int .i64 ps)).setCell ⟨v0.heap.size, 1, none⟩ (.slice (some ⟨g8, 0, none⟩) (vs.length + 1) cap8)).setCell ⟨v0.heap.size, 2, none⟩ (.slice B xs.length ce)) v0.heap.size 25 #[.int .i64 ps, .slice (some ⟨g8, 0, none⟩) (vs.length + 1) cap8, .slice B xs.length ce] := (((bDv66).set 0 (.int .i64 ps)).set 1 (.slice (some ⟨g8, 0, none⟩) (vs.length + 1) cap8)).set 2 (.slice B xs.length ce)
        have hbN := ((hbv66.setCell (p := ⟨v0.heap.size, 0, none⟩) hgD (.int .i64 ps)).setCell (p := ⟨v0.heap.size, 1, none⟩) hgD (.slice (some ⟨g8, 0, none⟩) (vs.length + 1) cap8)).setCell (p := ⟨v0.heap.size, 2, none⟩) hgD (.slice B xs.length ce)
        have hIN : IRow (((v66.setCell ⟨v0.heap.size, 0, none⟩ (.int .i64 ps)).setCell ⟨v0.heap.size, 1, none⟩ (.slice (some ⟨g8, 0, none⟩) (vs.length + 1) cap8)).setCell ⟨v0.heap.size, 2, none⟩ (.slice B xs.length ce)) (((v66.setCell ⟨v0.heap.size, 0, none⟩ (.int .i64 ps)).setCell ⟨v0.heap.size, 1, none⟩ (.slice (some ⟨g8, 0, none⟩) (vs.length + 1) cap8)).setCell ⟨v0.heap.size, 2, none⟩ (.slice B xs.length ce)).heap.size (some ⟨g8, 0, none⟩) (vs ++ [t]) := row_far3 (row_ints (icells_snoc vs t ▸ hR8v66)) (show g8 ≠ v0.heap.size from (by have a0 := hsv0.out; have a1 := hsv53.out; have a2 := hsv63.out; have a3 := hsv64.out; have a4 := hsv65.out; have a5 := hg5.out; have a6 := hl5.out; have a7 := hl6.out; have a8 := hsv66.out; have a9 := hg8.out; have a10 := hl8.out; omega)) _ _ _
        have hcp := own_cap2 hR8v66
        clear z0 z1 z2 f0 f1 f2
        refine hK.out _ _ (OrdU.no (by kernel_rfl)) (fun _ => ?_)
        clear hK K'
        try simp only [Act.put, List.setIfInBounds_toArray, List.set_cons_zero, List.set_cons_succ]
        refine OrdU.wpAnyU_done (by kernel_rfl) ?_ _
        go_wp2_with fail
        go_meet
        exact ⟨_, g8, cap8, rfl, hbN, hgD, bN, hIN, hcp⟩
  case rest =>
    obtain ⟨gq, g8, cap8, rfl, hbN, hgD, bN, hIN, hcp⟩ := hcut
    have hbF := hb5.trans (hbN.mono hb5.size)
    have bA6 := HZ.out.1.below hbN HZ.out.2.2
    have ok1 := HZ.out.2.1.at hbN
    have HQ := Lib.hid (fun W (h : Below wc.heap.size wc W) => And.intro (bN.below h bN.lt).three (HBX.out _ (hbF.trans (h.mono hbF.size))))
    have HSm := Lib.hid (fun A1 c1 A2 c2 W (h1 : (rn A1 c1 s).Ok W) (h2 : (rn A2 c2 s2).Ok W) => show Calls Try.prog 10 #[.agg #[.int .i64 s.kind, .int .i64 s.value, .int .i64 s.steps, .slice A1 s.ev.length c1], .agg #[.int .i64 s2.kind, .int .i64 s2.value, .int .i64 s2.steps, .slice A2 s2.ev.length c2]] W fun e w' => e = .returned (.bool true) ∧ Below W.heap.size W w' from by
      have := ref_MSame_any _ _ W h1 h2
      rw [show (rn A1 c1 s).same (rn A2 c2 s2) = true from by
        obtain ⟨e1, e2, e3, e4⟩ := HAL.out
        exact Rn.same_iff.2 ⟨e4.symm, e1.symm, e2.symm, by show (s.steps : Int) = s2.steps; rw [e3]⟩] at this
      exact this)
    have hIV : IRow wc wc.heap.size (some ⟨g8, 0, none⟩) vs := fun i x hi => hIN i x (by rw [List.getElem?_append_left (List.getElem?_eq_some_iff.1 hi).1]; exact hi)
    have HI := Lib.hid (fun W (h : Below wc.heap.size wc W) => show Calls Try.prog 16 #[.slice (some ⟨g8, 0, none⟩) vs.length cap8, .slice (some ad5) vs.length c0] W (fun e w' => e = .returned (.bool true) ∧ Below W.heap.size W w') from by
      have := Ints_any (some ⟨g8, 0, none⟩) cap8 vs (some ad5) c0 vs W (hIV.at h) ((HP.out.at (hbF.trans (h.mono hbF.size))).ok q1 q2).vars (by omega)
      rw [decide_eq_true rfl] at this
      exact this)
    have HK2 := Lib.hid (K2.out g8 cap8 wc hbF hIN hcp)
    have k7 : (vs.length : Int) ≤ (cap8 : Int) := by omega
    have k8 : (0 : Int) ≤ (vs.length : Int) := by omega
    obtain ⟨⟨d0, d1, d2⟩, b0, b1, b2⟩ := HQ.out _ (Below.refl _ _)
    clear hIV hIN hcp bN K2
    go_wp2_with (first
      | (go_at_call 8; (with_reducible refine HK2.out.mono ?_); rintro e w6 ⟨hb6, A2, c2, rfl, ok2⟩
         have bB := Blk.new w6 32 #[.int .i64 s2.kind, .int .i64 s2.value, .int .i64 s2.steps, .slice A2 s2.ev.length c2]
         have hbB : Below w6.heap.size w6 (w6.alloc (.cells #[.int .i64 s2.kind, .int .i64 s2.value, .int .i64 s2.steps, .slice A2 s2.ev.length c2] 32)) := (Below.refl _ _).alloc (Nat.le_refl _) _
         have ok1 := (ok1.at hb6).at hbB
         have ok2 := ok2.at hbB
         have bA7 := bA6.below hb6 bA6.lt
         have bA7 := bA7.below hbB bA7.lt
         have hb7 := hb6.trans (hbB.mono hb6.size)
         obtain ⟨x0, x1, x2, x3⟩ := blk4 bA7
         obtain ⟨y0, y1, y2, y3⟩ := blk4 bB
         obtain ⟨⟨d0, d1, d2⟩, b0, b1, b2⟩ := HQ.out _ hb7)
      | (go_at_call 10; (with_reducible refine (HSm.out _ _ _ _ _ ok1 ok2).mono ?_); rintro e w8 ⟨rfl, hb8⟩; have hb8 := hb7.trans (hb8.mono hb7.size); obtain ⟨⟨d0, d1, d2⟩, b0, b1, b2⟩ := HQ.out _ hb8)
      | fail)
    have hb8d := hb8.trans ((Below.refl w8.heap.size w8).drew.mono hb8.size)
    go_region_held3 (fun w' => w'.cell? ⟨gq, 1, none⟩ = some (.slice (some ⟨g8, 0, none⟩) (vs.length + 1) cap8) ∧ w'.cell? ⟨w.heap.size, 1, none⟩ = some (.slice (some ad5) vs.length c0)) (first | (with_reducible exact ⟨d1, b1⟩) | exact ⟨d1, b1⟩ | fail) (first
      | (go_at_call 16; (with_reducible refine (HI.out _ hb8d).mono ?_); rintro e w9 ⟨rfl, hb9⟩
         have hb9 := hb8d.trans (hb9.mono hb8d.size)
         obtain ⟨⟨d0, d1, d2⟩, b0, b1, b2⟩ := HQ.out _ hb9)
      | fail)
    go_wp2_with fail
    go_ret
    exact ⟨by simp, hB0.trans ((hbF.trans (hb9.mono hbF.size)).mono hB0.size)⟩

set_option maxRecDepth 100000 in
set_option maxHeartbeats 16000000 in
theorem unused_none (K : DPkg) (hw : Works) (ps : Int) (A0 : Option Addr) (c0 : Nat) (B : Option Addr) (ce : Nat) (xs : List Nd) (t : Int) (A : Option Addr) (c : Nat) (args : List Int) (hl : args.length ≤ c) (hA : A = none → c = 0) (f : Int) (hf : N64 f) (w : World) (hp : Prg.In (⟨ps, A0, c0, ([] : List Int), B, ce, xs⟩ : Prg) w) (hR : IRow w w.heap.size A args) (hfe : mfew (⟨ps, A0, c0, ([] : List Int), B, ce, xs⟩ : Prg) args.length f = true) (h0 : ¬ t < 0) (h9 : ¬ 9 < t) (h12 : ([] : List Int).length < 12) (hE : mcheck ps ([] : List Int) xs args.length f = 0) :
    Calls Try.prog 5 #[.agg #[.int .i64 ps, .slice A0 0 c0, .slice B xs.length ce], .int .i64 t, .slice A args.length c, .int .i64 f] w fun e w' => e = .returned (.bool true) ∧ Below w.heap.size w w' := by
  have hB0 : Below w.heap.size w (w.alloc (.cells #[.int .i64 ps, .slice A0 0 c0, .slice B xs.length ce] 25)) := (Below.refl _ _).alloc (Nat.le_refl _) _
  have bX := Blk.new w 25 #[.int .i64 ps, .slice A0 0 c0, .slice B xs.length ce]
  have hi := hp.at hB0
  have hr := hR.at hB0
  obtain ⟨wQ, hwQ⟩ : ∃ wQ, w.alloc (.cells #[.int .i64 ps, .slice A0 0 c0, .slice B xs.length ce] 25) = wQ := ⟨_, rfl⟩
  rw [hwQ] at hB0 bX hi hr
  have hgl := bX.lt
  have HBX := Lib.hid (fun W (h : Below wQ.heap.size wQ W) => (bX.below h hgl).three)
  have HP := Lib.hid hi
  have HR := Lib.hid (fun W (h : Below wQ.heap.size wQ W) => hr.at h)
  have HWQ := Lib.hid hwQ
  have HW := Lib.hid (fun W => hw W)
  have HF := Lib.hid (fun W => (show Calls Try.prog 7 #[.agg #[.int .i64 ps, .slice A0 0 c0, .slice B xs.length ce], .slice A args.length c, .int .i64 f] W (fun e w' => e = .returned (.bool (mfew (⟨ps, A0, c0, ([] : List Int), B, ce, xs⟩ : Prg) args.length f)) ∧ Below W.heap.size W w') from few17_any (⟨ps, A0, c0, ([] : List Int), B, ce, xs⟩ : Prg) A c args.length f W))
  clear hp hR bX hwQ hi hr
  rw [hfe] at HF
  obtain ⟨m1, m2, q3, q4⟩ := mfew_ok hfe
  simp only at m1 m2
  have hlv : ([] : List Int).length ≤ 20 := m1
  have q1 : ([] : List Int).length ≤ 1000000 := by omega
  have q2 : xs.length ≤ 1000000 := by omega
  have j1 : ¬ (12 : Int) ≤ (0 : Int) := by omega
  have hright := mcheck_zero.1 hE
  have hE2 : mcheck ps (([] : List Int) ++ [t]) xs args.length f = 0 := mcheck_zero.2 (right_more ⟨by omega, by omega⟩ h12 hright)
  have hal : Mach.Alike (rrun ps (([] : List Int) ++ [t]) xs args f) (rrun ps ([] : List Int) xs args f) := by
    rw [rrun_ok hE2, rrun_ok hE]
    exact run_unused t hright
  have KD := Lib.hid (fun W (hb : Below wQ.heap.size wQ W) => show Calls Try.prog 8 #[.agg #[.int .i64 ps, .slice A0 0 c0, .slice B xs.length ce], .slice A args.length c, .int .i64 f] W (RunEnds' (⟨ps, A0, c0, ([] : List Int), B, ce, xs⟩ : Prg) args f (rrun ps ([] : List Int) xs args f) (mcheck ps ([] : List Int) xs args.length f) W) from (K.run (⟨ps, A0, c0, ([] : List Int), B, ce, xs⟩ : Prg) A c args f W ((HP.out.at hb).ok q1 q2) (HR.out W hb) hl hA (by omega) hf).mono (RunEnds.open (⟨ps, A0, c0, ([] : List Int), B, ce, xs⟩ : Prg) args f W))
  have K2 := Lib.hid (fun g cap W (hb : Below wQ.heap.size wQ W) (h3 : IRow W W.heap.size (some ⟨g, 0, none⟩) (([] : List Int) ++ [t])) (h1 : 1 ≤ cap) => show Calls Try.prog 8 #[.agg #[.int .i64 ps, .slice (some ⟨g, 0, none⟩) 1 cap, .slice B xs.length ce], .slice A args.length c, .int .i64 f] W (RunEnds' ⟨ps, some ⟨g, 0, none⟩, cap, ([] : List Int) ++ [t], B, ce, xs⟩ args f (rrun ps (([] : List Int) ++ [t]) xs args f) (mcheck ps (([] : List Int) ++ [t]) xs args.length f) W) from by
    have h := (HP.out.at hb).ok q1 q2
    have q := (K.run ⟨ps, some ⟨g, 0, none⟩, cap, ([] : List Int) ++ [t], B, ce, xs⟩ A c args f W ⟨h3, h.body, by first | (simp; done) | (simp; omega), h.lx, by first | (simp; done) | (simp; omega), h.ce, (fun e => by cases e), h.nb⟩ (HR.out W hb) hl hA (by omega) hf).mono (RunEnds.open _ args f W)
    simpa using q)
  rw [hE] at KD
  rw [hE2] at K2
  generalize rrun ps (([] : List Int) ++ [t]) xs args f = s2 at *
  generalize rrun ps ([] : List Int) xs args f = s at *
  have HAL := Lib.hid hal
  clear hal hE hE2 hright hfe
  obtain ⟨ig, hig, hz0, hz1, hz2⟩ := info_parts info_int
  go_enter Try.func5, Try.ntmps5
  go_wp2_with (first
    | (go_at_call 6; rw [HWQ.out]; (with_reducible refine (HW.out _).mono ?_); rintro e w2 ⟨rfl, hb2⟩; obtain ⟨b0, b1, b2⟩ := HBX.out _ hb2)
    | (go_at_call 7; (with_reducible refine (HF.out _).mono ?_); rintro e w3 ⟨rfl, hb⟩; have hb3 := hb2.trans (hb.mono hb2.size); obtain ⟨b0, b1, b2⟩ := HBX.out _ hb3)
    | (go_at_call 8; (with_reducible refine (KD.out _ hb3).mono ?_); rintro e w4 ⟨hb4, A1, c1, rfl, ok1⟩
       have bA := Blk.new w4 32 #[.int .i64 s.kind, .int .i64 s.value, .int .i64 s.steps, .slice A1 s.ev.length c1]
       have hbA : Below w4.heap.size w4 (w4.alloc (.cells #[.int .i64 s.kind, .int .i64 s.value, .int .i64 s.steps, .slice A1 s.ev.length c1] 32)) := (Below.refl _ _).alloc (Nat.le_refl _) _
       have ok1 := ok1.at hbA
       have hb5 := (hb3.trans (hb4.mono hb3.size)).trans (hbA.mono (hb3.trans (hb4.mono hb3.size)).size)
       obtain ⟨b0, b1, b2⟩ := HBX.out _ hb5)
    | fail)
  have bA5 : Blk (w4.alloc (.cells #[.int .i64 s.kind, .int .i64 s.value, .int .i64 s.steps, .slice A1 s.ev.length c1] 32)) w4.heap.size 32 #[.int .i64 s.kind, .int .i64 s.value, .int .i64 s.steps, .slice A1 s.ev.length c1] := bA
  have hg5 : w4.heap.size < (w4.alloc (.cells #[.int .i64 s.kind, .int .i64 s.value, .int .i64 s.steps, .slice A1 s.ev.length c1] 32)).heap.size := by simp
  obtain ⟨w5, hw5⟩ : ∃ w5, w4.alloc (.cells #[.int .i64 s.kind, .int .i64 s.value, .int .i64 s.steps, .slice A1 s.ev.length c1] 32) = w5 := ⟨_, rfl⟩
  rw [hw5] at ok1 hb5 bA5 hg5 b0 b1 b2 ⊢
  clear bA hbA hw5 hb4 hb3 hb2
  have HZ := Lib.hid (And.intro bA5 (And.intro ok1 hg5))
  have hC := And.intro b0 (And.intro b1 b2)
  clear b0 b1 b2 bA5 ok1 hg5
  generalize w4.heap.size = g4 at *
  go_cut [12] from 50 to 62 (fun r wx => ∃ gq g8 cap8, r = .pointer (some ⟨gq, 0, none⟩) ∧ Below w5.heap.size w5 wx ∧ w5.heap.size ≤ gq ∧ Blk wx gq 25 #[.int .i64 ps, .slice (some ⟨g8, 0, none⟩) 1 cap8, .slice B xs.length ce] ∧ IRow wx wx.heap.size (some ⟨g8, 0, none⟩) (([] : List Int) ++ [t]) ∧ 1 ≤ cap8)
  case first =>
    have hC' : (fun w' : World => w'.cell? ⟨w.heap.size, 0, none⟩ = some (.int .i64 ps) ∧ w'.cell? ⟨w.heap.size, 1, none⟩ = some (.slice A0 0 c0) ∧ w'.cell? ⟨w.heap.size, 2, none⟩ = some (.slice B xs.length ce)) w5.drew := hC
    refine OrdU.wp_region_U 13 (fun w' => w'.cell? ⟨w.heap.size, 0, none⟩ = some (.int .i64 ps) ∧ w'.cell? ⟨w.heap.size, 1, none⟩ = some (.slice A0 0 c0) ∧ w'.cell? ⟨w.heap.size, 2, none⟩ = some (.slice B xs.length ce)) (by kernel_rfl) hC' (fun hHeld => ?_)
    refine OrdU.wpAnyU_take (i := 0) (oi := ⟨some 50, _, _, _, _, none⟩) (v := ?_) rfl (by kernel_rfl) (by kernel_rfl) (by kernel_rfl) (by decide) (by kernel_rfl) (fun _ _ _ h => h) (Or.inl ⟨by rfl, ?_⟩) (by assumption) ?_
    rotate_left
    · (intro w hSw; (try dsimp only at hSw); go_simp; (try with_reducible rfl))
    try simp only [Act.put, List.setIfInBounds_toArray, List.set_cons_zero, List.set_cons_succ]
    refine OrdU.wpAnyU_take (i := 1) (oi := ⟨some 51, _, _, _, _, none⟩) (v := ?_) rfl (by kernel_rfl) (by kernel_rfl) (by kernel_rfl) (by decide) (by kernel_rfl) (fun _ _ _ h => h) (Or.inl ⟨by rfl, ?_⟩) (by assumption) ?_
    rotate_left
    · (intro w hSw; (try dsimp only at hSw); go_simp; (try with_reducible rfl))
    try simp only [Act.put, List.setIfInBounds_toArray, List.set_cons_zero, List.set_cons_succ]
    refine OrdU.wpAnyU_take (i := 3) (oi := ⟨some 53, _, _, _, _, none⟩) (v := ?_) rfl (by kernel_rfl) (by kernel_rfl) (by kernel_rfl) (by decide) (by kernel_rfl) (fun _ _ _ h => h) (Or.inl ⟨by rfl, ?_⟩) (by assumption) ?_
    rotate_left
    · (intro w hSw; (try dsimp only at hSw); go_simp; (try with_reducible rfl))
    try simp only [Act.put, List.setIfInBounds_toArray, List.set_cons_zero, List.set_cons_succ]
    refine OrdU.wpAnyU_take (i := 4) (oi := ⟨some 54, _, _, _, _, none⟩) (v := ?_) rfl (by kernel_rfl) (by kernel_rfl) (by kernel_rfl) (by decide) (by kernel_rfl) (fun _ _ _ h => h) (Or.inl ⟨by rfl, ?_⟩) (by assumption) ?_
    rotate_left
    · (intro w hSw; (try dsimp only at hSw); go_simp; (try with_reducible rfl))
    try simp only [Act.put, List.setIfInBounds_toArray, List.set_cons_zero, List.set_cons_succ]
    refine OrdU.wpAnyU_take (i := 6) (oi := ⟨some 56, _, _, _, _, none⟩) (v := ?_) rfl (by kernel_rfl) (by kernel_rfl) (by kernel_rfl) (by decide) (by kernel_rfl) (fun _ _ _ h => h) (Or.inl ⟨by rfl, ?_⟩) (by assumption) ?_
    rotate_left
    · (intro w hSw; (try dsimp only at hSw); go_simp; (try with_reducible rfl))
    try simp only [Act.put, List.setIfInBounds_toArray, List.set_cons_zero, List.set_cons_succ]
    refine OrdU.wpAnyU_take (i := 9) (oi := ⟨some 59, _, _, _, _, none⟩) (v := ?_) rfl (by kernel_rfl) (by kernel_rfl) (by kernel_rfl) (by decide) (by kernel_rfl) (fun _ _ _ h => h) (Or.inl ⟨by rfl, ?_⟩) (by assumption) ?_
    rotate_left
    · (intro w hSw; (try dsimp only at hSw); go_simp; (try with_reducible rfl))
    try simp only [Act.put, List.setIfInBounds_toArray, List.set_cons_zero, List.set_cons_succ]
    refine OrdU.wpAnyU_take (i := 10) (oi := ⟨some 60, _, _, _, _, none⟩) (v := ?_) rfl (by kernel_rfl) (by kernel_rfl) (by kernel_rfl) (by decide) (by kernel_rfl) (fun _ _ _ h => h) (Or.inl ⟨by rfl, ?_⟩) (by assumption) ?_
    rotate_left
    · (intro w hSw; (try dsimp only at hSw); go_simp; (try with_reducible rfl))
    try simp only [Act.put, List.setIfInBounds_toArray, List.set_cons_zero, List.set_cons_succ]
    have hbv0 : Below w5.heap.size w5 w5.drew := (Below.refl _ _).drew
    have hsv0 : w5.drew.heap.size = w5.heap.size := rfl
    obtain ⟨v0, ev0⟩ : ∃ x, w5.drew = x := ⟨_, rfl⟩
    rw [ev0] at hbv0 hsv0 hHeld ⊢
    clear ev0
    replace hsv0 := Lib.hid hsv0
    refine OrdU.wpAnyU_ready (rs := [2, 7, 12]) (by kernel_rfl) (by simp) ?_
    refine (OrdU.AllReadyU.cons (o := ⟨some 52, _, _, _, _, none⟩) rfl (fun K' hK => ?_) (OrdU.AllReadyU.cons (o := ⟨some 57, _, _, _, _, none⟩) rfl (fun K' hK => ?_) (OrdU.AllReadyU.cons (o := ⟨some 12, _, _, _, _, none⟩) rfl (fun K' hK => ?_) OrdU.AllReadyU.nil)))
    · go_simp
      have hbv1 := hbv0.alloc (hbv0.size) (.cells #[] 3)
      have bEv1 : Blk (v0.alloc (.cells #[] 3)) v0.heap.size 3 #[] := Blk.new v0 _ _
      have hsv1 : (v0.alloc (.cells #[] 3)).heap.size = v0.heap.size + 1 := World.size_alloc _ _
      refine hK.out _ _ (fun _ => HBX.out _ (hb5.trans (hbv1.mono hb5.size))) (fun hHeld => ?_)
      replace hHeld := hHeld (by kernel_rfl)
      clear hK K'
      try simp only [Act.put, List.setIfInBounds_toArray, List.set_cons_zero, List.set_cons_succ]
      obtain ⟨v1, ev1⟩ : ∃ x, v0.alloc (.cells #[] 3) = x := ⟨_, rfl⟩
      rw [ev1] at hbv1 bEv1 hsv1 hHeld ⊢
      clear ev1
      replace hsv1 := Lib.hid hsv1
      refine OrdU.wpAnyU_ready (rs := [5, 7, 12]) (by kernel_rfl) (by simp) ?_
      refine (OrdU.AllReadyU.cons (o := ⟨some 55, _, _, _, _, none⟩) rfl (fun K' hK => ?_) (OrdU.AllReadyU.cons (o := ⟨some 57, _, _, _, _, none⟩) rfl (fun K' hK => ?_) (OrdU.AllReadyU.cons (o := ⟨some 12, _, _, _, _, none⟩) rfl (fun K' hK => ?_) OrdU.AllReadyU.nil)))
      · refine step_append_nothing rfl _ _ rfl v0.heap.size rfl A0 c0 rfl ?_
        refine hK.out _ _ (fun _ => HBX.out _ (hb5.trans (hbv1.mono hb5.size))) (fun hHeld => ?_)
        replace hHeld := hHeld (by kernel_rfl)
        clear hK K'
        try simp only [Act.put, List.setIfInBounds_toArray, List.set_cons_zero, List.set_cons_succ]
        have hR5v2 := row0 (base := w5.heap.size) bEv1 (show w5.heap.size ≤ v0.heap.size from (by have a0 := hsv0.out; have a1 := hsv1.out; omega))
        refine OrdU.wpAnyU_ready (rs := [7, 12]) (by kernel_rfl) (by simp) ?_
        refine (OrdU.AllReadyU.cons (o := ⟨some 57, _, _, _, _, none⟩) rfl (fun K' hK => ?_) (OrdU.AllReadyU.cons (o := ⟨some 12, _, _, _, _, none⟩) rfl (fun K' hK => ?_) OrdU.AllReadyU.nil))
        · go_simp
          have hbv3 := hbv1.alloc (hbv1.size) (.cells #[.int .i64 t] 3)
          have bCv3 : Blk (v1.alloc (.cells #[.int .i64 t] 3)) v1.heap.size 3 #[.int .i64 t] := Blk.new v1 _ _
          have hsv3 : (v1.alloc (.cells #[.int .i64 t] 3)).heap.size = v1.heap.size + 1 := World.size_alloc _ _
          have hR5v3 := (hR5v2).alloc (.cells #[.int .i64 t] 3)
          refine hK.out _ _ (fun _ => HBX.out _ (hb5.trans (hbv3.mono hb5.size))) (fun hHeld => ?_)
          replace hHeld := hHeld (by kernel_rfl)
          clear hK K'
          try simp only [Act.put, List.setIfInBounds_toArray, List.set_cons_zero, List.set_cons_succ]
          obtain ⟨v3, ev3⟩ : ∃ x, v1.alloc (.cells #[.int .i64 t] 3) = x := ⟨_, rfl⟩
          rw [ev3] at hbv3 bCv3 hsv3 hR5v3 hHeld ⊢
          clear ev3
          replace hsv3 := Lib.hid hsv3
          refine OrdU.wpAnyU_ready (rs := [8, 12]) (by kernel_rfl) (by simp) ?_
          refine (OrdU.AllReadyU.cons (o := ⟨some 58, _, _, _, _, none⟩) rfl (fun K' hK => ?_) (OrdU.AllReadyU.cons (o := ⟨some 12, _, _, _, _, none⟩) rfl (fun K' hK => ?_) OrdU.AllReadyU.nil))
          · refine step_append_lies _ (by rfl) _ _ _ (by rfl) w5.heap.size 3 ig _ 1 8 Try.underlying22 hig hz0 hz1 hz2 rfl (by omega) _ 0 [] (by rfl) hR5v3 ⟨v1.heap.size, 0, none⟩ 1 1 [.int .i64 t] (by rfl) (by rfl) (World.news_of_block (cs := #[.int .i64 t]) (t := 3) (fr := (0, 0)) bCv3) (by simp [Value.oneCell']) (by omega) (by simp only [maxLen]; omega) (by omega) (hbv3.size) (v3.heap.size) rfl ?_
            intro g8 cap8 v4 hR8v4 hgrow hat hlt
            have hbv4 := hbv3.grown hgrow (hbv3.size) (fun k e => ((hR5v3).lt k e).1)
            have hsv4 := Lib.hid (hgrow.size)
            have hg8 := Lib.hid (show g8 = v0.heap.size ∨ g8 = v3.heap.size from by rcases hat with q | q; (exact .inl (Option.some.inj q).symm); exact .inr q)
            have hl8 := Lib.hid (hR8v4.lt _ rfl).2
            clear hgrow hat
            refine hK.out _ _ (fun _ => HBX.out _ (hb5.trans (hbv4.mono hb5.size))) (fun hHeld => ?_)
            replace hHeld := hHeld (by kernel_rfl)
            clear hK K'
            try simp only [Act.put, List.setIfInBounds_toArray, List.set_cons_zero, List.set_cons_succ]
            try simp only [Nat.zero_add]
            refine OrdU.wpAnyU_take (i := 11) (oi := ⟨some 61, _, _, _, _, none⟩) (v := ?_) rfl (by kernel_rfl) (by kernel_rfl) (by kernel_rfl) (by decide) (by kernel_rfl) (fun _ _ _ h => h) (Or.inl ⟨by rfl, ?_⟩) (by assumption) ?_
            rotate_left
            · (intro w hSw; (try dsimp only at hSw); go_simp; (try with_reducible rfl))
            try simp only [Act.put, List.setIfInBounds_toArray, List.set_cons_zero, List.set_cons_succ]
            refine OrdU.wpAnyU_ready (rs := [12]) (by kernel_rfl) (by simp) ?_
            refine (OrdU.AllReadyU.cons (o := ⟨some 12, _, _, _, _, none⟩) rfl (fun K' hK => ?_) OrdU.AllReadyU.nil)
            go_simp
            have hbv5 := hbv4.alloc (hbv4.size) (.cells #[.int .i64 0, .slice none 0 0, .slice none 0 0] 25)
            have bDv5 : Blk (v4.alloc (.cells #[.int .i64 0, .slice none 0 0, .slice none 0 0] 25)) v4.heap.size 25 #[.int .i64 0, .slice none 0 0, .slice none 0 0] := Blk.new v4 _ _
            have hsv5 : (v4.alloc (.cells #[.int .i64 0, .slice none 0 0, .slice none 0 0] 25)).heap.size = v4.heap.size + 1 := World.size_alloc _ _
            have hR8v5 := (hR8v4).alloc (.cells #[.int .i64 0, .slice none 0 0, .slice none 0 0] 25)
            refine hK.out _ _ (fun _ => HBX.out _ (hb5.trans (hbv5.mono hb5.size))) (fun hHeld => ?_)
            replace hHeld := hHeld (by kernel_rfl)
            clear hK K'
            try simp only [Act.put, List.setIfInBounds_toArray, List.set_cons_zero, List.set_cons_succ]
            obtain ⟨v5, ev5⟩ : ∃ x, v4.alloc (.cells #[.int .i64 0, .slice none 0 0, .slice none 0 0] 25) = x := ⟨_, rfl⟩
            rw [ev5] at hbv5 bDv5 hsv5 hR8v5 hHeld ⊢
            clear ev5
            replace hsv5 := Lib.hid hsv5
            refine OrdU.wpAnyU_ready (rs := [13]) (by kernel_rfl) (by simp) ?_
            refine (OrdU.AllReadyU.cons (o := ⟨none, _, _, _, _, none⟩) rfl (fun K' hK => ?_) OrdU.AllReadyU.nil)
            obtain ⟨z0, z1, z2⟩ := (bDv5).three
            have f0 := (bDv5).frozen 0
            have f1 := (bDv5).frozen 1
            have f2 := (bDv5).frozen 2
            go_simp
            have hgD := (show w5.heap.size ≤ v4.heap.size from (by have a0 := hsv0.out; have a1 := hsv1.out; have a2 := hsv3.out; have a3 := hsv4.out; have a4 := hg8.out; have a5 := hl8.out; have a6 := hsv5.out; omega))
            have bN : Blk (((v5.setCell ⟨v4.heap.size, 0, none⟩ (.int .i64 ps)).setCell ⟨v4.heap.size, 1, none⟩ (.slice (some ⟨g8, 0, none⟩) 1 cap8)).setCell ⟨v4.heap.size, 2, none⟩ (.slice B xs.length ce)) v4.heap.size 25 #[.int .i64 ps, .slice (some ⟨g8, 0, none⟩) 1 cap8, .slice B xs.length ce] := (((bDv5).set 0 (.int .i64 ps)).set 1 (.slice (some ⟨g8, 0, none⟩) 1 cap8)).set 2 (.slice B xs.length ce)
            have hbN := ((hbv5.setCell (p := ⟨v4.heap.size, 0, none⟩) hgD (.int .i64 ps)).setCell (p := ⟨v4.heap.size, 1, none⟩) hgD (.slice (some ⟨g8, 0, none⟩) 1 cap8)).setCell (p := ⟨v4.heap.size, 2, none⟩) hgD (.slice B xs.length ce)
            have hIN : IRow (((v5.setCell ⟨v4.heap.size, 0, none⟩ (.int .i64 ps)).setCell ⟨v4.heap.size, 1, none⟩ (.slice (some ⟨g8, 0, none⟩) 1 cap8)).setCell ⟨v4.heap.size, 2, none⟩ (.slice B xs.length ce)) (((v5.setCell ⟨v4.heap.size, 0, none⟩ (.int .i64 ps)).setCell ⟨v4.heap.size, 1, none⟩ (.slice (some ⟨g8, 0, none⟩) 1 cap8)).setCell ⟨v4.heap.size, 2, none⟩ (.slice B xs.length ce)).heap.size (some ⟨g8, 0, none⟩) ([] ++ [t]) := row_far3 (row_ints hR8v5) (show g8 ≠ v4.heap.size from (by have a0 := hsv0.out; have a1 := hsv1.out; have a2 := hsv3.out; have a3 := hsv4.out; have a4 := hg8.out; have a5 := hl8.out; have a6 := hsv5.out; omega)) _ _ _
            have hcp := own_cap2 hR8v5
            clear z0 z1 z2 f0 f1 f2
            refine hK.out _ _ (OrdU.no (by kernel_rfl)) (fun _ => ?_)
            clear hK K'
            try simp only [Act.put, List.setIfInBounds_toArray, List.set_cons_zero, List.set_cons_succ]
            refine OrdU.wpAnyU_done (by kernel_rfl) ?_ _
            go_wp2_with fail
            go_meet
            exact ⟨_, g8, cap8, rfl, hbN, hgD, bN, hIN, hcp⟩
          · go_simp
            have hbv7 := hbv3.alloc (hbv3.size) (.cells #[.int .i64 0, .slice none 0 0, .slice none 0 0] 25)
            have bDv7 : Blk (v3.alloc (.cells #[.int .i64 0, .slice none 0 0, .slice none 0 0] 25)) v3.heap.size 25 #[.int .i64 0, .slice none 0 0, .slice none 0 0] := Blk.new v3 _ _
            have hsv7 : (v3.alloc (.cells #[.int .i64 0, .slice none 0 0, .slice none 0 0] 25)).heap.size = v3.heap.size + 1 := World.size_alloc _ _
            have bCv7 := (bCv3).alloc (.cells #[.int .i64 0, .slice none 0 0, .slice none 0 0] 25)
            have hR5v7 := (hR5v3).alloc (.cells #[.int .i64 0, .slice none 0 0, .slice none 0 0] 25)
            refine hK.out _ _ (fun _ => HBX.out _ (hb5.trans (hbv7.mono hb5.size))) (fun hHeld => ?_)
            replace hHeld := hHeld (by kernel_rfl)
            clear hK K'
            try simp only [Act.put, List.setIfInBounds_toArray, List.set_cons_zero, List.set_cons_succ]
            obtain ⟨v7, ev7⟩ : ∃ x, v3.alloc (.cells #[.int .i64 0, .slice none 0 0, .slice none 0 0] 25) = x := ⟨_, rfl⟩
            rw [ev7] at hbv7 bDv7 hsv7 bCv7 hR5v7 hHeld ⊢
            clear ev7
            replace hsv7 := Lib.hid hsv7
            refine OrdU.wpAnyU_ready (rs := [8]) (by kernel_rfl) (by simp) ?_
            refine (OrdU.AllReadyU.cons (o := ⟨some 58, _, _, _, _, none⟩) rfl (fun K' hK => ?_) OrdU.AllReadyU.nil)
            refine step_append_lies _ (by rfl) _ _ _ (by rfl) w5.heap.size 3 ig _ 1 8 Try.underlying22 hig hz0 hz1 hz2 rfl (by omega) _ 0 [] (by rfl) hR5v7 ⟨v1.heap.size, 0, none⟩ 1 1 [.int .i64 t] (by rfl) (by rfl) (World.news_of_block (cs := #[.int .i64 t]) (t := 3) (fr := (0, 0)) bCv7) (by simp [Value.oneCell']) (by omega) (by simp only [maxLen]; omega) (by omega) (hbv7.size) (v7.heap.size) rfl ?_
            intro g8 cap8 v8 hR8v8 hgrow hat hlt
            have hbv8 := hbv7.grown hgrow (hbv7.size) (fun k e => ((hR5v7).lt k e).1)
            have hsv8 := Lib.hid (hgrow.size)
            have hg8 := Lib.hid (show g8 = v0.heap.size ∨ g8 = v7.heap.size from by rcases hat with q | q; (exact .inl (Option.some.inj q).symm); exact .inr q)
            have hl8 := Lib.hid (hR8v8.lt _ rfl).2
            have bDv8 := (bDv7).grown hgrow (fun hq => absurd (show v3.heap.size = v0.heap.size from Option.some.inj hq) (by have a0 := hsv0.out; have a1 := hsv1.out; have a2 := hsv3.out; have a3 := hsv7.out; omega))
            clear hgrow hat
            refine hK.out _ _ (fun _ => HBX.out _ (hb5.trans (hbv8.mono hb5.size))) (fun hHeld => ?_)
            replace hHeld := hHeld (by kernel_rfl)
            clear hK K'
            try simp only [Act.put, List.setIfInBounds_toArray, List.set_cons_zero, List.set_cons_succ]
            try simp only [Nat.zero_add]
            refine OrdU.wpAnyU_take (i := 11) (oi := ⟨some 61, _, _, _, _, none⟩) (v := ?_) rfl (by kernel_rfl) (by kernel_rfl) (by kernel_rfl) (by decide) (by kernel_rfl) (fun _ _ _ h => h) (Or.inl ⟨by rfl, ?_⟩) (by assumption) ?_
            rotate_left
            · (intro w hSw; (try dsimp only at hSw); go_simp; (try with_reducible rfl))
            try simp only [Act.put, List.setIfInBounds_toArray, List.set_cons_zero, List.set_cons_succ]
            refine OrdU.wpAnyU_ready (rs := [13]) (by kernel_rfl) (by simp) ?_
            refine (OrdU.AllReadyU.cons (o := ⟨none, _, _, _, _, none⟩) rfl (fun K' hK => ?_) OrdU.AllReadyU.nil)
            obtain ⟨z0, z1, z2⟩ := (bDv8).three
            have f0 := (bDv8).frozen 0
            have f1 := (bDv8).frozen 1
            have f2 := (bDv8).frozen 2
            go_simp
            have hgD := (show w5.heap.size ≤ v3.heap.size from (by have a0 := hsv0.out; have a1 := hsv1.out; have a2 := hsv3.out; have a3 := hsv7.out; have a4 := hsv8.out; have a5 := hg8.out; have a6 := hl8.out; omega))
            have bN : Blk (((v8.setCell ⟨v3.heap.size, 0, none⟩ (.int .i64 ps)).setCell ⟨v3.heap.size, 1, none⟩ (.slice (some ⟨g8, 0, none⟩) 1 cap8)).setCell ⟨v3.heap.size, 2, none⟩ (.slice B xs.length ce)) v3.heap.size 25 #[.int .i64 ps, .slice (some ⟨g8, 0, none⟩) 1 cap8, .slice B xs.length ce] := (((bDv8).set 0 (.int .i64 ps)).set 1 (.slice (some ⟨g8, 0, none⟩) 1 cap8)).set 2 (.slice B xs.length ce)
            have hbN := ((hbv8.setCell (p := ⟨v3.heap.size, 0, none⟩) hgD (.int .i64 ps)).setCell (p := ⟨v3.heap.size, 1, none⟩) hgD (.slice (some ⟨g8, 0, none⟩) 1 cap8)).setCell (p := ⟨v3.heap.size, 2, none⟩) hgD (.slice B xs.length ce)
            have hIN : IRow (((v8.setCell ⟨v3.heap.size, 0, none⟩ (.int .i64 ps)).setCell ⟨v3.heap.size, 1, none⟩ (.slice (some ⟨g8, 0, none⟩) 1 cap8)).setCell ⟨v3.heap.size, 2, none⟩ (.slice B xs.length ce)) (((v8.setCell ⟨v3.heap.size, 0, none⟩ (.int .i64 ps)).setCell ⟨v3.heap.size, 1, none⟩ (.slice (some ⟨g8, 0, none⟩) 1 cap8)).setCell ⟨v3.heap.size, 2, none⟩ (.slice B xs.length ce)).heap.size (some ⟨g8, 0, none⟩) ([] ++ [t]) := row_far3 (row_ints hR8v8) (show g8 ≠ v3.heap.size from (by have a0 := hsv0.out; have a1 := hsv1.out; have a2 := hsv3.out; have a3 := hsv7.out; have a4 := hsv8.out; have a5 := hg8.out; have a6 := hl8.out; omega)) _ _ _
            have hcp := own_cap2 hR8v8
            clear z0 z1 z2 f0 f1 f2
            refine hK.out _ _ (OrdU.no (by kernel_rfl)) (fun _ => ?_)
            clear hK K'
            try simp only [Act.put, List.setIfInBounds_toArray, List.set_cons_zero, List.set_cons_succ]
            refine OrdU.wpAnyU_done (by kernel_rfl) ?_ _
            go_wp2_with fail
            go_meet
            exact ⟨_, g8, cap8, rfl, hbN, hgD, bN, hIN, hcp⟩
        · go_simp
          have hbv10 := hbv1.alloc (hbv1.size) (.cells #[.int .i64 0, .slice none 0 0, .slice none 0 0] 25)
          have bDv10 : Blk (v1.alloc (.cells #[.int .i64 0, .slice none 0 0, .slice none 0 0] 25)) v1.heap.size 25 #[.int .i64 0, .slice none 0 0, .slice none 0 0] := Blk.new v1 _ _
          have hsv10 : (v1.alloc (.cells #[.int .i64 0, .slice none 0 0, .slice none 0 0] 25)).heap.size = v1.heap.size + 1 := World.size_alloc _ _
          have hR5v10 := (hR5v2).alloc (.cells #[.int .i64 0, .slice none 0 0, .slice none 0 0] 25)
          refine hK.out _ _ (fun _ => HBX.out _ (hb5.trans (hbv10.mono hb5.size))) (fun hHeld => ?_)
          replace hHeld := hHeld (by kernel_rfl)
          clear hK K'
          try simp only [Act.put, List.setIfInBounds_toArray, List.set_cons_zero, List.set_cons_succ]
          obtain ⟨v10, ev10⟩ : ∃ x, v1.alloc (.cells #[.int .i64 0, .slice none 0 0, .slice none 0 0] 25) = x := ⟨_, rfl⟩
          rw [ev10] at hbv10 bDv10 hsv10 hR5v10 hHeld ⊢
          clear ev10
          replace hsv10 := Lib.hid hsv10
          refine OrdU.wpAnyU_ready (rs := [7]) (by kernel_rfl) (by simp) ?_
          refine (OrdU.AllReadyU.cons (o := ⟨some 57, _, _, _, _, none⟩) rfl (fun K' hK => ?_) OrdU.AllReadyU.nil)
          go_simp
          have hbv11 := hbv10.alloc (hbv10.size) (.cells #[.int .i64 t] 3)
          have bCv11 : Blk (v10.alloc (.cells #[.int .i64 t] 3)) v10.heap.size 3 #[.int .i64 t] := Blk.new v10 _ _
          have hsv11 : (v10.alloc (.cells #[.int .i64 t] 3)).heap.size = v10.heap.size + 1 := World.size_alloc _ _
          have bDv11 := (bDv10).alloc (.cells #[.int .i64 t] 3)
          have hR5v11 := (hR5v10).alloc (.cells #[.int .i64 t] 3)
          refine hK.out _ _ (fun _ => HBX.out _ (hb5.trans (hbv11.mono hb5.size))) (fun hHeld => ?_)
          replace hHeld := hHeld (by kernel_rfl)
          clear hK K'
          try simp only [Act.put, List.setIfInBounds_toArray, List.set_cons_zero, List.set_cons_succ]
          obtain ⟨v11, ev11⟩ : ∃ x, v10.alloc (.cells #[.int .i64 t] 3) = x := ⟨_, rfl⟩
          rw [ev11] at hbv11 bCv11 hsv11 bDv11 hR5v11 hHeld ⊢
          clear ev11
          replace hsv11 := Lib.hid hsv11
          refine OrdU.wpAnyU_ready (rs := [8]) (by kernel_rfl) (by simp) ?_
          refine (OrdU.AllReadyU.cons (o := ⟨some 58, _, _, _, _, none⟩) rfl (fun K' hK => ?_) OrdU.AllReadyU.nil)
          refine step_append_lies _ (by rfl) _ _ _ (by rfl) w5.heap.size 3 ig _ 1 8 Try.underlying22 hig hz0 hz1 hz2 rfl (by omega) _ 0 [] (by rfl) hR5v11 ⟨v10.heap.size, 0, none⟩ 1 1 [.int .i64 t] (by rfl) (by rfl) (World.news_of_block (cs := #[.int .i64 t]) (t := 3) (fr := (0, 0)) bCv11) (by simp [Value.oneCell']) (by omega) (by simp only [maxLen]; omega) (by omega) (hbv11.size) (v11.heap.size) rfl ?_
          intro g8 cap8 v12 hR8v12 hgrow hat hlt
          have hbv12 := hbv11.grown hgrow (hbv11.size) (fun k e => ((hR5v11).lt k e).1)
          have hsv12 := Lib.hid (hgrow.size)
          have hg8 := Lib.hid (show g8 = v0.heap.size ∨ g8 = v11.heap.size from by rcases hat with q | q; (exact .inl (Option.some.inj q).symm); exact .inr q)
          have hl8 := Lib.hid (hR8v12.lt _ rfl).2
          have bDv12 := (bDv11).grown hgrow (fun hq => absurd (show v1.heap.size = v0.heap.size from Option.some.inj hq) (by have a0 := hsv0.out; have a1 := hsv1.out; have a2 := hsv10.out; have a3 := hsv11.out; omega))
          clear hgrow hat
          refine hK.out _ _ (fun _ => HBX.out _ (hb5.trans (hbv12.mono hb5.size))) (fun hHeld => ?_)
          replace hHeld := hHeld (by kernel_rfl)
          clear hK K'
          try simp only [Act.put, List.setIfInBounds_toArray, List.set_cons_zero, List.set_cons_succ]
          try simp only [Nat.zero_add]
          refine OrdU.wpAnyU_take (i := 11) (oi := ⟨some 61, _, _, _, _, none⟩) (v := ?_) rfl (by kernel_rfl) (by kernel_rfl) (by kernel_rfl) (by decide) (by kernel_rfl) (fun _ _ _ h => h) (Or.inl ⟨by rfl, ?_⟩) (by assumption) ?_
          rotate_left
          · (intro w hSw; (try dsimp only at hSw); go_simp; (try with_reducible rfl))
          try simp only [Act.put, List.setIfInBounds_toArray, List.set_cons_zero, List.set_cons_succ]
          refine OrdU.wpAnyU_ready (rs := [13]) (by kernel_rfl) (by simp) ?_
          refine (OrdU.AllReadyU.cons (o := ⟨none, _, _, _, _, none⟩) rfl (fun K' hK => ?_) OrdU.AllReadyU.nil)
          obtain ⟨z0, z1, z2⟩ := (bDv12).three
          have f0 := (bDv12).frozen 0
          have f1 := (bDv12).frozen 1
          have f2 := (bDv12).frozen 2
          go_simp
          have hgD := (show w5.heap.size ≤ v1.heap.size from (by have a0 := hsv0.out; have a1 := hsv1.out; have a2 := hsv10.out; have a3 := hsv11.out; have a4 := hsv12.out; have a5 := hg8.out; have a6 := hl8.out; omega))
          have bN : Blk (((v12.setCell ⟨v1.heap.size, 0, none⟩ (.int .i64 ps)).setCell ⟨v1.heap.size, 1, none⟩ (.slice (some ⟨g8, 0, none⟩) 1 cap8)).setCell ⟨v1.heap.size, 2, none⟩ (.slice B xs.length ce)) v1.heap.size 25 #[.int .i64 ps, .slice (some ⟨g8, 0, none⟩) 1 cap8, .slice B xs.length ce] := (((bDv12).set 0 (.int .i64 ps)).set 1 (.slice (some ⟨g8, 0, none⟩) 1 cap8)).set 2 (.slice B xs.length ce)
          have hbN := ((hbv12.setCell (p := ⟨v1.heap.size, 0, none⟩) hgD (.int .i64 ps)).setCell (p := ⟨v1.heap.size, 1, none⟩) hgD (.slice (some ⟨g8, 0, none⟩) 1 cap8)).setCell (p := ⟨v1.heap.size, 2, none⟩) hgD (.slice B xs.length ce)
          have hIN : IRow (((v12.setCell ⟨v1.heap.size, 0, none⟩ (.int .i64 ps)).setCell ⟨v1.heap.size, 1, none⟩ (.slice (some ⟨g8, 0, none⟩) 1 cap8)).setCell ⟨v1.heap.size, 2, none⟩ (.slice B xs.length ce)) (((v12.setCell ⟨v1.heap.size, 0, none⟩ (.int .i64 ps)).setCell ⟨v1.heap.size, 1, none⟩ (.slice (some ⟨g8, 0, none⟩) 1 cap8)).setCell ⟨v1.heap.size, 2, none⟩ (.slice B xs.length ce)).heap.size (some ⟨g8, 0, none⟩) ([] ++ [t]) := row_far3 (row_ints hR8v12) (show g8 ≠ v1.heap.size from (by have a0 := hsv0.out; have a1 := hsv1.out; have a2 := hsv10.out; have a3 := hsv11.out; have a4 := hsv12.out; have a5 := hg8.out; have a6 := hl8.out; omega)) _ _ _
          have hcp := own_cap2 hR8v12
          clear z0 z1 z2 f0 f1 f2
          refine hK.out _ _ (OrdU.no (by kernel_rfl)) (fun _ => ?_)
          clear hK K'
          try simp only [Act.put, List.setIfInBounds_toArray, List.set_cons_zero, List.set_cons_succ]
          refine OrdU.wpAnyU_done (by kernel_rfl) ?_ _
          go_wp2_with fail
          go_meet
          exact ⟨_, g8, cap8, rfl, hbN, hgD, bN, hIN, hcp⟩
      · go_simp
        have hbv14 := hbv1.alloc (hbv1.size) (.cells #[.int .i64 t] 3)
        have bCv14 : Blk (v1.alloc (.cells #[.int .i64 t] 3)) v1.heap.size 3 #[.int .i64 t] := Blk.new v1 _ _
        have hsv14 : (v1.alloc (.cells #[.int .i64 t] 3)).heap.size = v1.heap.size + 1 := World.size_alloc _ _
        have bEv14 := (bEv1).alloc (.cells #[.int .i64 t] 3)
        refine hK.out _ _ (fun _ => HBX.out _ (hb5.trans (hbv14.mono hb5.size))) (fun hHeld => ?_)
        replace hHeld := hHeld (by kernel_rfl)
        clear hK K'
        try simp only [Act.put, List.setIfInBounds_toArray, List.set_cons_zero, List.set_cons_succ]
        obtain ⟨v14, ev14⟩ : ∃ x, v1.alloc (.cells #[.int .i64 t] 3) = x := ⟨_, rfl⟩
        rw [ev14] at hbv14 bCv14 hsv14 bEv14 hHeld ⊢
        clear ev14
        replace hsv14 := Lib.hid hsv14
        refine OrdU.wpAnyU_ready (rs := [5, 12]) (by kernel_rfl) (by simp) ?_
        refine (OrdU.AllReadyU.cons (o := ⟨some 55, _, _, _, _, none⟩) rfl (fun K' hK => ?_) (OrdU.AllReadyU.cons (o := ⟨some 12, _, _, _, _, none⟩) rfl (fun K' hK => ?_) OrdU.AllReadyU.nil))
        · refine step_append_nothing rfl _ _ rfl v0.heap.size rfl A0 c0 rfl ?_
          refine hK.out _ _ (fun _ => HBX.out _ (hb5.trans (hbv14.mono hb5.size))) (fun hHeld => ?_)
          replace hHeld := hHeld (by kernel_rfl)
          clear hK K'
          try simp only [Act.put, List.setIfInBounds_toArray, List.set_cons_zero, List.set_cons_succ]
          have hR5v15 := row0 (base := w5.heap.size) bEv14 (show w5.heap.size ≤ v0.heap.size from (by have a0 := hsv0.out; have a1 := hsv1.out; have a2 := hsv14.out; omega))
          refine OrdU.wpAnyU_ready (rs := [8, 12]) (by kernel_rfl) (by simp) ?_
          refine (OrdU.AllReadyU.cons (o := ⟨some 58, _, _, _, _, none⟩) rfl (fun K' hK => ?_) (OrdU.AllReadyU.cons (o := ⟨some 12, _, _, _, _, none⟩) rfl (fun K' hK => ?_) OrdU.AllReadyU.nil))
          · refine step_append_lies _ (by rfl) _ _ _ (by rfl) w5.heap.size 3 ig _ 1 8 Try.underlying22 hig hz0 hz1 hz2 rfl (by omega) _ 0 [] (by rfl) hR5v15 ⟨v1.heap.size, 0, none⟩ 1 1 [.int .i64 t] (by rfl) (by rfl) (World.news_of_block (cs := #[.int .i64 t]) (t := 3) (fr := (0, 0)) bCv14) (by simp [Value.oneCell']) (by omega) (by simp only [maxLen]; omega) (by omega) (hbv14.size) (v14.heap.size) rfl ?_
            intro g8 cap8 v16 hR8v16 hgrow hat hlt
            have hbv16 := hbv14.grown hgrow (hbv14.size) (fun k e => ((hR5v15).lt k e).1)
            have hsv16 := Lib.hid (hgrow.size)
            have hg8 := Lib.hid (show g8 = v0.heap.size ∨ g8 = v14.heap.size from by rcases hat with q | q; (exact .inl (Option.some.inj q).symm); exact .inr q)
            have hl8 := Lib.hid (hR8v16.lt _ rfl).2
            clear hgrow hat
            refine hK.out _ _ (fun _ => HBX.out _ (hb5.trans (hbv16.mono hb5.size))) (fun hHeld => ?_)
            replace hHeld := hHeld (by kernel_rfl)
            clear hK K'
            try simp only [Act.put, List.setIfInBounds_toArray, List.set_cons_zero, List.set_cons_succ]
            try simp only [Nat.zero_add]
            refine OrdU.wpAnyU_take (i := 11) (oi := ⟨some 61, _, _, _, _, none⟩) (v := ?_) rfl (by kernel_rfl) (by kernel_rfl) (by kernel_rfl) (by decide) (by kernel_rfl) (fun _ _ _ h => h) (Or.inl ⟨by rfl, ?_⟩) (by assumption) ?_
            rotate_left
            · (intro w hSw; (try dsimp only at hSw); go_simp; (try with_reducible rfl))
            try simp only [Act.put, List.setIfInBounds_toArray, List.set_cons_zero, List.set_cons_succ]
            refine OrdU.wpAnyU_ready (rs := [12]) (by kernel_rfl) (by simp) ?_
            refine (OrdU.AllReadyU.cons (o := ⟨some 12, _, _, _, _, none⟩) rfl (fun K' hK => ?_) OrdU.AllReadyU.nil)
            go_simp
            have hbv17 := hbv16.alloc (hbv16.size) (.cells #[.int .i64 0, .slice none 0 0, .slice none 0 0] 25)
            have bDv17 : Blk (v16.alloc (.cells #[.int .i64 0, .slice none 0 0, .slice none 0 0] 25)) v16.heap.size 25 #[.int .i64 0, .slice none 0 0, .slice none 0 0] := Blk.new v16 _ _
            have hsv17 : (v16.alloc (.cells #[.int .i64 0, .slice none 0 0, .slice none 0 0] 25)).heap.size = v16.heap.size + 1 := World.size_alloc _ _
            have hR8v17 := (hR8v16).alloc (.cells #[.int .i64 0, .slice none 0 0, .slice none 0 0] 25)
            refine hK.out _ _ (fun _ => HBX.out _ (hb5.trans (hbv17.mono hb5.size))) (fun hHeld => ?_)
            replace hHeld := hHeld (by kernel_rfl)
            clear hK K'
            try simp only [Act.put, List.setIfInBounds_toArray, List.set_cons_zero, List.set_cons_succ]
            obtain ⟨v17, ev17⟩ : ∃ x, v16.alloc (.cells #[.int .i64 0, .slice none 0 0, .slice none 0 0] 25) = x := ⟨_, rfl⟩
            rw [ev17] at hbv17 bDv17 hsv17 hR8v17 hHeld ⊢
            clear ev17
            replace hsv17 := Lib.hid hsv17
            refine OrdU.wpAnyU_ready (rs := [13]) (by kernel_rfl) (by simp) ?_
            refine (OrdU.AllReadyU.cons (o := ⟨none, _, _, _, _, none⟩) rfl (fun K' hK => ?_) OrdU.AllReadyU.nil)
            obtain ⟨z0, z1, z2⟩ := (bDv17).three
            have f0 := (bDv17).frozen 0
            have f1 := (bDv17).frozen 1
            have f2 := (bDv17).frozen 2
            go_simp
            have hgD := (show w5.heap.size ≤ v16.heap.size from (by have a0 := hsv0.out; have a1 := hsv1.out; have a2 := hsv14.out; have a3 := hsv16.out; have a4 := hg8.out; have a5 := hl8.out; have a6 := hsv17.out; omega))
            have bN : Blk (((v17.setCell ⟨v16.heap.size, 0, none⟩ (.int .i64 ps)).setCell ⟨v16.heap.size, 1, none⟩ (.slice (some ⟨g8, 0, none⟩) 1 cap8)).setCell ⟨v16.heap.size, 2, none⟩ (.slice B xs.length ce)) v16.heap.size 25 #[.int .i64 ps, .slice (some ⟨g8, 0, none⟩) 1 cap8, .slice B xs.length ce] := (((bDv17).set 0 (.int .i64 ps)).set 1 (.slice (some ⟨g8, 0, none⟩) 1 cap8)).set 2 (.slice B xs.length ce)
            have hbN := ((hbv17.setCell (p := ⟨v16.heap.size, 0, none⟩) hgD (.int .i64 ps)).setCell (p := ⟨v16.heap.size, 1, none⟩) hgD (.slice (some ⟨g8, 0, none⟩) 1 cap8)).setCell (p := ⟨v16.heap.size, 2, none⟩) hgD (.slice B xs.length ce)
            have hIN : IRow (((v17.setCell ⟨v16.heap.size, 0, none⟩ (.int .i64 ps)).setCell ⟨v16.heap.size, 1, none⟩ (.slice (some ⟨g8, 0, none⟩) 1 cap8)).setCell ⟨v16.heap.size, 2, none⟩ (.slice B xs.length ce)) (((v17.setCell ⟨v16.heap.size, 0, none⟩ (.int .i64 ps)).setCell ⟨v16.heap.size, 1, none⟩ (.slice (some ⟨g8, 0, none⟩) 1 cap8)).setCell ⟨v16.heap.size, 2, none⟩ (.slice B xs.length ce)).heap.size (some ⟨g8, 0, none⟩) ([] ++ [t]) := row_far3 (row_ints hR8v17) (show g8 ≠ v16.heap.size from (by have a0 := hsv0.out; have a1 := hsv1.out; have a2 := hsv14.out; have a3 := hsv16.out; have a4 := hg8.out; have a5 := hl8.out; have a6 := hsv17.out; omega)) _ _ _
            have hcp := own_cap2 hR8v17
            clear z0 z1 z2 f0 f1 f2
            refine hK.out _ _ (OrdU.no (by kernel_rfl)) (fun _ => ?_)
            clear hK K'
            try simp only [Act.put, List.setIfInBounds_toArray, List.set_cons_zero, List.set_cons_succ]
            refine OrdU.wpAnyU_done (by kernel_rfl) ?_ _
            go_wp2_with fail
            go_meet
            exact ⟨_, g8, cap8, rfl, hbN, hgD, bN, hIN, hcp⟩
          · go_simp
            have hbv19 := hbv14.alloc (hbv14.size) (.cells #[.int .i64 0, .slice none 0 0, .slice none 0 0] 25)
            have bDv19 : Blk (v14.alloc (.cells #[.int .i64 0, .slice none 0 0, .slice none 0 0] 25)) v14.heap.size 25 #[.int .i64 0, .slice none 0 0, .slice none 0 0] := Blk.new v14 _ _
            have hsv19 : (v14.alloc (.cells #[.int .i64 0, .slice none 0 0, .slice none 0 0] 25)).heap.size = v14.heap.size + 1 := World.size_alloc _ _
            have bCv19 := (bCv14).alloc (.cells #[.int .i64 0, .slice none 0 0, .slice none 0 0] 25)
            have hR5v19 := (hR5v15).alloc (.cells #[.int .i64 0, .slice none 0 0, .slice none 0 0] 25)
            refine hK.out _ _ (fun _ => HBX.out _ (hb5.trans (hbv19.mono hb5.size))) (fun hHeld => ?_)
            replace hHeld := hHeld (by kernel_rfl)
            clear hK K'
            try simp only [Act.put, List.setIfInBounds_toArray, List.set_cons_zero, List.set_cons_succ]
            obtain ⟨v19, ev19⟩ : ∃ x, v14.alloc (.cells #[.int .i64 0, .slice none 0 0, .slice none 0 0] 25) = x := ⟨_, rfl⟩
            rw [ev19] at hbv19 bDv19 hsv19 bCv19 hR5v19 hHeld ⊢
            clear ev19
            replace hsv19 := Lib.hid hsv19
            refine OrdU.wpAnyU_ready (rs := [8]) (by kernel_rfl) (by simp) ?_
            refine (OrdU.AllReadyU.cons (o := ⟨some 58, _, _, _, _, none⟩) rfl (fun K' hK => ?_) OrdU.AllReadyU.nil)
            refine step_append_lies _ (by rfl) _ _ _ (by rfl) w5.heap.size 3 ig _ 1 8 Try.underlying22 hig hz0 hz1 hz2 rfl (by omega) _ 0 [] (by rfl) hR5v19 ⟨v1.heap.size, 0, none⟩ 1 1 [.int .i64 t] (by rfl) (by rfl) (World.news_of_block (cs := #[.int .i64 t]) (t := 3) (fr := (0, 0)) bCv19) (by simp [Value.oneCell']) (by omega) (by simp only [maxLen]; omega) (by omega) (hbv19.size) (v19.heap.size) rfl ?_
            intro g8 cap8 v20 hR8v20 hgrow hat hlt
            have hbv20 := hbv19.grown hgrow (hbv19.size) (fun k e => ((hR5v19).lt k e).1)
            have hsv20 := Lib.hid (hgrow.size)
            have hg8 := Lib.hid (show g8 = v0.heap.size ∨ g8 = v19.heap.size from by rcases hat with q | q; (exact .inl (Option.some.inj q).symm); exact .inr q)
            have hl8 := Lib.hid (hR8v20.lt _ rfl).2
            have bDv20 := (bDv19).grown hgrow (fun hq => absurd (show v14.heap.size = v0.heap.size from Option.some.inj hq) (by have a0 := hsv0.out; have a1 := hsv1.out; have a2 := hsv14.out; have a3 := hsv19.out; omega))
            clear hgrow hat
            refine hK.out _ _ (fun _ => HBX.out _ (hb5.trans (hbv20.mono hb5.size))) (fun hHeld => ?_)
            replace hHeld := hHeld (by kernel_rfl)
            clear hK K'
            try simp only [Act.put, List.setIfInBounds_toArray, List.set_cons_zero, List.set_cons_succ]
            try simp only [Nat.zero_add]
            refine OrdU.wpAnyU_take (i := 11) (oi := ⟨some 61, _, _, _, _, none⟩) (v := ?_) rfl (by kernel_rfl) (by kernel_rfl) (by kernel_rfl) (by decide) (by kernel_rfl) (fun _ _ _ h => h) (Or.inl ⟨by rfl, ?_⟩) (by assumption) ?_
            rotate_left
            · (intro w hSw; (try dsimp only at hSw); go_simp; (try with_reducible rfl))
            try simp only [Act.put, List.setIfInBounds_toArray, List.set_cons_zero, List.set_cons_succ]
            refine OrdU.wpAnyU_ready (rs := [13]) (by kernel_rfl) (by simp) ?_
            refine (OrdU.AllReadyU.cons (o := ⟨none, _, _, _, _, none⟩) rfl (fun K' hK => ?_) OrdU.AllReadyU.nil)
            obtain ⟨z0, z1, z2⟩ := (bDv20).three
            have f0 := (bDv20).frozen 0
            have f1 := (bDv20).frozen 1
            have f2 := (bDv20).frozen 2
            go_simp
            have hgD := (show w5.heap.size ≤ v14.heap.size from (by have a0 := hsv0.out; have a1 := hsv1.out; have a2 := hsv14.out; have a3 := hsv19.out; have a4 := hsv20.out; have a5 := hg8.out; have a6 := hl8.out; omega))
            have bN : Blk (((v20.setCell ⟨v14.heap.size, 0, none⟩ (.int .i64 ps)).setCell ⟨v14.heap.size, 1, none⟩ (.slice (some ⟨g8, 0, none⟩) 1 cap8)).setCell ⟨v14.heap.size, 2, none⟩ (.slice B xs.length ce)) v14.heap.size 25 #[.int .i64 ps, .slice (some ⟨g8, 0, none⟩) 1 cap8, .slice B xs.length ce] := (((bDv20).set 0 (.int .i64 ps)).set 1 (.slice (some ⟨g8, 0, none⟩) 1 cap8)).set 2 (.slice B xs.length ce)
            have hbN := ((hbv20.setCell (p := ⟨v14.heap.size, 0, none⟩) hgD (.int .i64 ps)).setCell (p := ⟨v14.heap.size, 1, none⟩) hgD (.slice (some ⟨g8, 0, none⟩) 1 cap8)).setCell (p := ⟨v14.heap.size, 2, none⟩) hgD (.slice B xs.length ce)
            have hIN : IRow (((v20.setCell ⟨v14.heap.size, 0, none⟩ (.int .i64 ps)).setCell ⟨v14.heap.size, 1, none⟩ (.slice (some ⟨g8, 0, none⟩) 1 cap8)).setCell ⟨v14.heap.size, 2, none⟩ (.slice B xs.length ce)) (((v20.setCell ⟨v14.heap.size, 0, none⟩ (.int .i64 ps)).setCell ⟨v14.heap.size, 1, none⟩ (.slice (some ⟨g8, 0, none⟩) 1 cap8)).setCell ⟨v14.heap.size, 2, none⟩ (.slice B xs.length ce)).heap.size (some ⟨g8, 0, none⟩) ([] ++ [t]) := row_far3 (row_ints hR8v20) (show g8 ≠ v14.heap.size from (by have a0 := hsv0.out; have a1 := hsv1.out; have a2 := hsv14.out; have a3 := hsv19.out; have a4 := hsv20.out; have a5 := hg8.out; have a6 := hl8.out; omega)) _ _ _
            have hcp := own_cap2 hR8v20
            clear z0 z1 z2 f0 f1 f2
            refine hK.out _ _ (OrdU.no (by kernel_rfl)) (fun _ => ?_)
            clear hK K'
            try simp only [Act.put, List.setIfInBounds_toArray, List.set_cons_zero, List.set_cons_succ]
            refine OrdU.wpAnyU_done (by kernel_rfl) ?_ _
            go_wp2_with fail
            go_meet
            exact ⟨_, g8, cap8, rfl, hbN, hgD, bN, hIN, hcp⟩
        · go_simp
          have hbv22 := hbv14.alloc (hbv14.size) (.cells #[.int .i64 0, .slice none 0 0, .slice none 0 0] 25)
          have bDv22 : Blk (v14.alloc (.cells #[.int .i64 0, .slice none 0 0, .slice none 0 0] 25)) v14.heap.size 25 #[.int .i64 0, .slice none 0 0, .slice none 0 0] := Blk.new v14 _ _
          have hsv22 : (v14.alloc (.cells #[.int .i64 0, .slice none 0 0, .slice none 0 0] 25)).heap.size = v14.heap.size + 1 := World.size_alloc _ _
          have bEv22 := (bEv14).alloc (.cells #[.int .i64 0, .slice none 0 0, .slice none 0 0] 25)
          have bCv22 := (bCv14).alloc (.cells #[.int .i64 0, .slice none 0 0, .slice none 0 0] 25)
          refine hK.out _ _ (fun _ => HBX.out _ (hb5.trans (hbv22.mono hb5.size))) (fun hHeld => ?_)
          replace hHeld := hHeld (by kernel_rfl)
          clear hK K'
          try simp only [Act.put, List.setIfInBounds_toArray, List.set_cons_zero, List.set_cons_succ]
          obtain ⟨v22, ev22⟩ : ∃ x, v14.alloc (.cells #[.int .i64 0, .slice none 0 0, .slice none 0 0] 25) = x := ⟨_, rfl⟩
          rw [ev22] at hbv22 bDv22 hsv22 bEv22 bCv22 hHeld ⊢
          clear ev22
          replace hsv22 := Lib.hid hsv22
          refine OrdU.wpAnyU_ready (rs := [5]) (by kernel_rfl) (by simp) ?_
          refine (OrdU.AllReadyU.cons (o := ⟨some 55, _, _, _, _, none⟩) rfl (fun K' hK => ?_) OrdU.AllReadyU.nil)
          refine step_append_nothing rfl _ _ rfl v0.heap.size rfl A0 c0 rfl ?_
          refine hK.out _ _ (fun _ => HBX.out _ (hb5.trans (hbv22.mono hb5.size))) (fun hHeld => ?_)
          replace hHeld := hHeld (by kernel_rfl)
          clear hK K'
          try simp only [Act.put, List.setIfInBounds_toArray, List.set_cons_zero, List.set_cons_succ]
          have hR5v23 := row0 (base := w5.heap.size) bEv22 (show w5.heap.size ≤ v0.heap.size from (by have a0 := hsv0.out; have a1 := hsv1.out; have a2 := hsv14.out; have a3 := hsv22.out; omega))
          refine OrdU.wpAnyU_ready (rs := [8]) (by kernel_rfl) (by simp) ?_
          refine (OrdU.AllReadyU.cons (o := ⟨some 58, _, _, _, _, none⟩) rfl (fun K' hK => ?_) OrdU.AllReadyU.nil)
          refine step_append_lies _ (by rfl) _ _ _ (by rfl) w5.heap.size 3 ig _ 1 8 Try.underlying22 hig hz0 hz1 hz2 rfl (by omega) _ 0 [] (by rfl) hR5v23 ⟨v1.heap.size, 0, none⟩ 1 1 [.int .i64 t] (by rfl) (by rfl) (World.news_of_block (cs := #[.int .i64 t]) (t := 3) (fr := (0, 0)) bCv22) (by simp [Value.oneCell']) (by omega) (by simp only [maxLen]; omega) (by omega) (hbv22.size) (v22.heap.size) rfl ?_
          intro g8 cap8 v24 hR8v24 hgrow hat hlt
          have hbv24 := hbv22.grown hgrow (hbv22.size) (fun k e => ((hR5v23).lt k e).1)
          have hsv24 := Lib.hid (hgrow.size)
          have hg8 := Lib.hid (show g8 = v0.heap.size ∨ g8 = v22.heap.size from by rcases hat with q | q; (exact .inl (Option.some.inj q).symm); exact .inr q)
          have hl8 := Lib.hid (hR8v24.lt _ rfl).2
          have bDv24 := (bDv22).grown hgrow (fun hq => absurd (show v14.heap.size = v0.heap.size from Option.some.inj hq) (by have a0 := hsv0.out; have a1 := hsv1.out; have a2 := hsv14.out; have a3 := hsv22.out; omega))
          clear hgrow hat
          refine hK.out _ _ (fun _ => HBX.out _ (hb5.trans (hbv24.mono hb5.size))) (fun hHeld => ?_)
          replace hHeld := hHeld (by kernel_rfl)
          clear hK K'
          try simp only [Act.put, List.setIfInBounds_toArray, List.set_cons_zero, List.set_cons_succ]
          try simp only [Nat.zero_add]
          refine OrdU.wpAnyU_take (i := 11) (oi := ⟨some 61, _, _, _, _, none⟩) (v := ?_) rfl (by kernel_rfl) (by kernel_rfl) (by kernel_rfl) (by decide) (by kernel_rfl) (fun _ _ _ h => h) (Or.inl ⟨by rfl, ?_⟩) (by assumption) ?_
          rotate_left
          · (intro w hSw; (try dsimp only at hSw); go_simp; (try with_reducible rfl))
          try simp only [Act.put, List.setIfInBounds_toArray, List.set_cons_zero, List.set_cons_succ]
          refine OrdU.wpAnyU_ready (rs := [13]) (by kernel_rfl) (by simp) ?_
          refine (OrdU.AllReadyU.cons (o := ⟨none, _, _, _, _, none⟩) rfl (fun K' hK => ?_) OrdU.AllReadyU.nil)
          obtain ⟨z0, z1, z2⟩ := (bDv24).three
          have f0 := (bDv24).frozen 0
          have f1 := (bDv24).frozen 1
          have f2 := (bDv24).frozen 2
          go_simp
          have hgD := (show w5.heap.size ≤ v14.heap.size from (by have a0 := hsv0.out; have a1 := hsv1.out; have a2 := hsv14.out; have a3 := hsv22.out; have a4 := hsv24.out; have a5 := hg8.out; have a6 := hl8.out; omega))
          have bN : Blk (((v24.setCell ⟨v14.heap.size, 0, none⟩ (.int .i64 ps)).setCell ⟨v14.heap.size, 1, none⟩ (.slice (some ⟨g8, 0, none⟩) 1 cap8)).setCell ⟨v14.heap.size, 2, none⟩ (.slice B xs.length ce)) v14.heap.size 25 #[.int .i64 ps, .slice (some ⟨g8, 0, none⟩) 1 cap8, .slice B xs.length ce] := (((bDv24).set 0 (.int .i64 ps)).set 1 (.slice (some ⟨g8, 0, none⟩) 1 cap8)).set 2 (.slice B xs.length ce)
          have hbN := ((hbv24.setCell (p := ⟨v14.heap.size, 0, none⟩) hgD (.int .i64 ps)).setCell (p := ⟨v14.heap.size, 1, none⟩) hgD (.slice (some ⟨g8, 0, none⟩) 1 cap8)).setCell (p := ⟨v14.heap.size, 2, none⟩) hgD (.slice B xs.length ce)
          have hIN : IRow (((v24.setCell ⟨v14.heap.size, 0, none⟩ (.int .i64 ps)).setCell ⟨v14.heap.size, 1, none⟩ (.slice (some ⟨g8, 0, none⟩) 1 cap8)).setCell ⟨v14.heap.size, 2, none⟩ (.slice B xs.length ce)) (((v24.setCell ⟨v14.heap.size, 0, none⟩ (.int .i64 ps)).setCell ⟨v14.heap.size, 1, none⟩ (.slice (some ⟨g8, 0, none⟩) 1 cap8)).setCell ⟨v14.heap.size, 2, none⟩ (.slice B xs.length ce)).heap.size (some ⟨g8, 0, none⟩) ([] ++ [t]) := row_far3 (row_ints hR8v24) (show g8 ≠ v14.heap.size from (by have a0 := hsv0.out; have a1 := hsv1.out; have a2 := hsv14.out; have a3 := hsv22.out; have a4 := hsv24.out; have a5 := hg8.out; have a6 := hl8.out; omega)) _ _ _
          have hcp := own_cap2 hR8v24
          clear z0 z1 z2 f0 f1 f2
          refine hK.out _ _ (OrdU.no (by kernel_rfl)) (fun _ => ?_)
          clear hK K'
          try simp only [Act.put, List.setIfInBounds_toArray, List.set_cons_zero, List.set_cons_succ]
          refine OrdU.wpAnyU_done (by kernel_rfl) ?_ _
          go_wp2_with fail
          go_meet
          exact ⟨_, g8, cap8, rfl, hbN, hgD, bN, hIN, hcp⟩
      · go_simp
        have hbv26 := hbv1.alloc (hbv1.size) (.cells #[.int .i64 0, .slice none 0 0, .slice none 0 0] 25)
        have bDv26 : Blk (v1.alloc (.cells #[.int .i64 0, .slice none 0 0, .slice none 0 0] 25)) v1.heap.size 25 #[.int .i64 0, .slice none 0 0, .slice none 0 0] := Blk.new v1 _ _
        have hsv26 : (v1.alloc (.cells #[.int .i64 0, .slice none 0 0, .slice none 0 0] 25)).heap.size = v1.heap.size + 1 := World.size_alloc _ _
        have bEv26 := (bEv1).alloc (.cells #[.int .i64 0, .slice none 0 0, .slice none 0 0] 25)
        refine hK.out _ _ (fun _ => HBX.out _ (hb5.trans (hbv26.mono hb5.size))) (fun hHeld => ?_)
        replace hHeld := hHeld (by kernel_rfl)
        clear hK K'
        try simp only [Act.put, List.setIfInBounds_toArray, List.set_cons_zero, List.set_cons_succ]
        obtain ⟨v26, ev26⟩ : ∃ x, v1.alloc (.cells #[.int .i64 0, .slice none 0 0, .slice none 0 0] 25) = x := ⟨_, rfl⟩
        rw [ev26] at hbv26 bDv26 hsv26 bEv26 hHeld ⊢
        clear ev26
        replace hsv26 := Lib.hid hsv26
        refine OrdU.wpAnyU_ready (rs := [5, 7]) (by kernel_rfl) (by simp) ?_
        refine (OrdU.AllReadyU.cons (o := ⟨some 55, _, _, _, _, none⟩) rfl (fun K' hK => ?_) (OrdU.AllReadyU.cons (o := ⟨some 57, _, _, _, _, none⟩) rfl (fun K' hK => ?_) OrdU.AllReadyU.nil))
        · refine step_append_nothing rfl _ _ rfl v0.heap.size rfl A0 c0 rfl ?_
          refine hK.out _ _ (fun _ => HBX.out _ (hb5.trans (hbv26.mono hb5.size))) (fun hHeld => ?_)
          replace hHeld := hHeld (by kernel_rfl)
          clear hK K'
          try simp only [Act.put, List.setIfInBounds_toArray, List.set_cons_zero, List.set_cons_succ]
          have hR5v27 := row0 (base := w5.heap.size) bEv26 (show w5.heap.size ≤ v0.heap.size from (by have a0 := hsv0.out; have a1 := hsv1.out; have a2 := hsv26.out; omega))
          refine OrdU.wpAnyU_ready (rs := [7]) (by kernel_rfl) (by simp) ?_
          refine (OrdU.AllReadyU.cons (o := ⟨some 57, _, _, _, _, none⟩) rfl (fun K' hK => ?_) OrdU.AllReadyU.nil)
          go_simp
          have hbv28 := hbv26.alloc (hbv26.size) (.cells #[.int .i64 t] 3)
          have bCv28 : Blk (v26.alloc (.cells #[.int .i64 t] 3)) v26.heap.size 3 #[.int .i64 t] := Blk.new v26 _ _
          have hsv28 : (v26.alloc (.cells #[.int .i64 t] 3)).heap.size = v26.heap.size + 1 := World.size_alloc _ _
          have bDv28 := (bDv26).alloc (.cells #[.int .i64 t] 3)
          have hR5v28 := (hR5v27).alloc (.cells #[.int .i64 t] 3)
          refine hK.out _ _ (fun _ => HBX.out _ (hb5.trans (hbv28.mono hb5.size))) (fun hHeld => ?_)
          replace hHeld := hHeld (by kernel_rfl)
          clear hK K'
          try simp only [Act.put, List.setIfInBounds_toArray, List.set_cons_zero, List.set_cons_succ]
          obtain ⟨v28, ev28⟩ : ∃ x, v26.alloc (.cells #[.int .i64 t] 3) = x := ⟨_, rfl⟩
          rw [ev28] at hbv28 bCv28 hsv28 bDv28 hR5v28 hHeld ⊢
          clear ev28
          replace hsv28 := Lib.hid hsv28
          refine OrdU.wpAnyU_ready (rs := [8]) (by kernel_rfl) (by simp) ?_
          refine (OrdU.AllReadyU.cons (o := ⟨some 58, _, _, _, _, none⟩) rfl (fun K' hK => ?_) OrdU.AllReadyU.nil)
          refine step_append_lies _ (by rfl) _ _ _ (by rfl) w5.heap.size 3 ig _ 1 8 Try.underlying22 hig hz0 hz1 hz2 rfl (by omega) _ 0 [] (by rfl) hR5v28 ⟨v26.heap.size, 0, none⟩ 1 1 [.int .i64 t] (by rfl) (by rfl) (World.news_of_block (cs := #[.int .i64 t]) (t := 3) (fr := (0, 0)) bCv28) (by simp [Value.oneCell']) (by omega) (by simp only [maxLen]; omega) (by omega) (hbv28.size) (v28.heap.size) rfl ?_
          intro g8 cap8 v29 hR8v29 hgrow hat hlt
          have hbv29 := hbv28.grown hgrow (hbv28.size) (fun k e => ((hR5v28).lt k e).1)
          have hsv29 := Lib.hid (hgrow.size)
          have hg8 := Lib.hid (show g8 = v0.heap.size ∨ g8 = v28.heap.size from by rcases hat with q | q; (exact .inl (Option.some.inj q).symm); exact .inr q)
          have hl8 := Lib.hid (hR8v29.lt _ rfl).2
          have bDv29 := (bDv28).grown hgrow (fun hq => absurd (show v1.heap.size = v0.heap.size from Option.some.inj hq) (by have a0 := hsv0.out; have a1 := hsv1.out; have a2 := hsv26.out; have a3 := hsv28.out; omega))
          clear hgrow hat
          refine hK.out _ _ (fun _ => HBX.out _ (hb5.trans (hbv29.mono hb5.size))) (fun hHeld => ?_)
          replace hHeld := hHeld (by kernel_rfl)
          clear hK K'
          try simp only [Act.put, List.setIfInBounds_toArray, List.set_cons_zero, List.set_cons_succ]
          try simp only [Nat.zero_add]
          refine OrdU.wpAnyU_take (i := 11) (oi := ⟨some 61, _, _, _, _, none⟩) (v := ?_) rfl (by kernel_rfl) (by kernel_rfl) (by kernel_rfl) (by decide) (by kernel_rfl) (fun _ _ _ h => h) (Or.inl ⟨by rfl, ?_⟩) (by assumption) ?_
          rotate_left
          · (intro w hSw; (try dsimp only at hSw); go_simp; (try with_reducible rfl))
          try simp only [Act.put, List.setIfInBounds_toArray, List.set_cons_zero, List.set_cons_succ]
          refine OrdU.wpAnyU_ready (rs := [13]) (by kernel_rfl) (by simp) ?_
          refine (OrdU.AllReadyU.cons (o := ⟨none, _, _, _, _, none⟩) rfl (fun K' hK => ?_) OrdU.AllReadyU.nil)
          obtain ⟨z0, z1, z2⟩ := (bDv29).three
          have f0 := (bDv29).frozen 0
          have f1 := (bDv29).frozen 1
          have f2 := (bDv29).frozen 2
          go_simp
          have hgD := (show w5.heap.size ≤ v1.heap.size from (by have a0 := hsv0.out; have a1 := hsv1.out; have a2 := hsv26.out; have a3 := hsv28.out; have a4 := hsv29.out; have a5 := hg8.out; have a6 := hl8.out; omega))
          have bN : Blk (((v29.setCell ⟨v1.heap.size, 0, none⟩ (.int .i64 ps)).setCell ⟨v1.heap.size, 1, none⟩ (.slice (some ⟨g8, 0, none⟩) 1 cap8)).setCell ⟨v1.heap.size, 2, none⟩ (.slice B xs.length ce)) v1.heap.size 25 #[.int .i64 ps, .slice (some ⟨g8, 0, none⟩) 1 cap8, .slice B xs.length ce] := (((bDv29).set 0 (.int .i64 ps)).set 1 (.slice (some ⟨g8, 0, none⟩) 1 cap8)).set 2 (.slice B xs.length ce)
          have hbN := ((hbv29.setCell (p := ⟨v1.heap.size, 0, none⟩) hgD (.int .i64 ps)).setCell (p := ⟨v1.heap.size, 1, none⟩) hgD (.slice (some ⟨g8, 0, none⟩) 1 cap8)).setCell (p := ⟨v1.heap.size, 2, none⟩) hgD (.slice B xs.length ce)
          have hIN : IRow (((v29.setCell ⟨v1.heap.size, 0, none⟩ (.int .i64 ps)).setCell ⟨v1.heap.size, 1, none⟩ (.slice (some ⟨g8, 0, none⟩) 1 cap8)).setCell ⟨v1.heap.size, 2, none⟩ (.slice B xs.length ce)) (((v29.setCell ⟨v1.heap.size, 0, none⟩ (.int .i64 ps)).setCell ⟨v1.heap.size, 1, none⟩ (.slice (some ⟨g8, 0, none⟩) 1 cap8)).setCell ⟨v1.heap.size, 2, none⟩ (.slice B xs.length ce)).heap.size (some ⟨g8, 0, none⟩) ([] ++ [t]) := row_far3 (row_ints hR8v29) (show g8 ≠ v1.heap.size from (by have a0 := hsv0.out; have a1 := hsv1.out; have a2 := hsv26.out; have a3 := hsv28.out; have a4 := hsv29.out; have a5 := hg8.out; have a6 := hl8.out; omega)) _ _ _
          have hcp := own_cap2 hR8v29
          clear z0 z1 z2 f0 f1 f2
          refine hK.out _ _ (OrdU.no (by kernel_rfl)) (fun _ => ?_)
          clear hK K'
          try simp only [Act.put, List.setIfInBounds_toArray, List.set_cons_zero, List.set_cons_succ]
          refine OrdU.wpAnyU_done (by kernel_rfl) ?_ _
          go_wp2_with fail
          go_meet
          exact ⟨_, g8, cap8, rfl, hbN, hgD, bN, hIN, hcp⟩
        · go_simp
          have hbv31 := hbv26.alloc (hbv26.size) (.cells #[.int .i64 t] 3)
          have bCv31 : Blk (v26.alloc (.cells #[.int .i64 t] 3)) v26.heap.size 3 #[.int .i64 t] := Blk.new v26 _ _
          have hsv31 : (v26.alloc (.cells #[.int .i64 t] 3)).heap.size = v26.heap.size + 1 := World.size_alloc _ _
          have bEv31 := (bEv26).alloc (.cells #[.int .i64 t] 3)
          have bDv31 := (bDv26).alloc (.cells #[.int .i64 t] 3)
          refine hK.out _ _ (fun _ => HBX.out _ (hb5.trans (hbv31.mono hb5.size))) (fun hHeld => ?_)
          replace hHeld := hHeld (by kernel_rfl)
          clear hK K'
          try simp only [Act.put, List.setIfInBounds_toArray, List.set_cons_zero, List.set_cons_succ]
          obtain ⟨v31, ev31⟩ : ∃ x, v26.alloc (.cells #[.int .i64 t] 3) = x := ⟨_, rfl⟩
          rw [ev31] at hbv31 bCv31 hsv31 bEv31 bDv31 hHeld ⊢
          clear ev31
          replace hsv31 := Lib.hid hsv31
          refine OrdU.wpAnyU_ready (rs := [5]) (by kernel_rfl) (by simp) ?_
          refine (OrdU.AllReadyU.cons (o := ⟨some 55, _, _, _, _, none⟩) rfl (fun K' hK => ?_) OrdU.AllReadyU.nil)
          refine step_append_nothing rfl _ _ rfl v0.heap.size rfl A0 c0 rfl ?_
          refine hK.out _ _ (fun _ => HBX.out _ (hb5.trans (hbv31.mono hb5.size))) (fun hHeld => ?_)
          replace hHeld := hHeld (by kernel_rfl)
          clear hK K'
          try simp only [Act.put, List.setIfInBounds_toArray, List.set_cons_zero, List.set_cons_succ]
          have hR5v32 := row0 (base := w5.heap.size) bEv31 (show w5.heap.size ≤ v0.heap.size from (by have a0 := hsv0.out; have a1 := hsv1.out; have a2 := hsv26.out; have a3 := hsv31.out; omega))
          refine OrdU.wpAnyU_ready (rs := [8]) (by kernel_rfl) (by simp) ?_
          refine (OrdU.AllReadyU.cons (o := ⟨some 58, _, _, _, _, none⟩) rfl (fun K' hK => ?_) OrdU.AllReadyU.nil)
          refine step_append_lies _ (by rfl) _ _ _ (by rfl) w5.heap.size 3 ig _ 1 8 Try.underlying22 hig hz0 hz1 hz2 rfl (by omega) _ 0 [] (by rfl) hR5v32 ⟨v26.heap.size, 0, none⟩ 1 1 [.int .i64 t] (by rfl) (by rfl) (World.news_of_block (cs := #[.int .i64 t]) (t := 3) (fr := (0, 0)) bCv31) (by simp [Value.oneCell']) (by omega) (by simp only [maxLen]; omega) (by omega) (hbv31.size) (v31.heap.size) rfl ?_
          intro g8 cap8 v33 hR8v33 hgrow hat hlt
          have hbv33 := hbv31.grown hgrow (hbv31.size) (fun k e => ((hR5v32).lt k e).1)
          have hsv33 := Lib.hid (hgrow.size)
          have hg8 := Lib.hid (show g8 = v0.heap.size ∨ g8 = v31.heap.size from by rcases hat with q | q; (exact .inl (Option.some.inj q).symm); exact .inr q)
          have hl8 := Lib.hid (hR8v33.lt _ rfl).2
          have bDv33 := (bDv31).grown hgrow (fun hq => absurd (show v1.heap.size = v0.heap.size from Option.some.inj hq) (by have a0 := hsv0.out; have a1 := hsv1.out; have a2 := hsv26.out; have a3 := hsv31.out; omega))
          clear hgrow hat
          refine hK.out _ _ (fun _ => HBX.out _ (hb5.trans (hbv33.mono hb5.size))) (fun hHeld => ?_)
          replace hHeld := hHeld (by kernel_rfl)
          clear hK K'
          try simp only [Act.put, List.setIfInBounds_toArray, List.set_cons_zero, List.set_cons_succ]
          try simp only [Nat.zero_add]
          refine OrdU.wpAnyU_take (i := 11) (oi := ⟨some 61, _, _, _, _, none⟩) (v := ?_) rfl (by kernel_rfl) (by kernel_rfl) (by kernel_rfl) (by decide) (by kernel_rfl) (fun _ _ _ h => h) (Or.inl ⟨by rfl, ?_⟩) (by assumption) ?_
          rotate_left
          · (intro w hSw; (try dsimp only at hSw); go_simp; (try with_reducible rfl))
          try simp only [Act.put, List.setIfInBounds_toArray, List.set_cons_zero, List.set_cons_succ]
          refine OrdU.wpAnyU_ready (rs := [13]) (by kernel_rfl) (by simp) ?_
          refine (OrdU.AllReadyU.cons (o := ⟨none, _, _, _, _, none⟩) rfl (fun K' hK => ?_) OrdU.AllReadyU.nil)
          obtain ⟨z0, z1, z2⟩ := (bDv33).three
          have f0 := (bDv33).frozen 0
          have f1 := (bDv33).frozen 1
          have f2 := (bDv33).frozen 2
          go_simp
          have hgD := (show w5.heap.size ≤ v1.heap.size from (by have a0 := hsv0.out; have a1 := hsv1.out; have a2 := hsv26.out; have a3 := hsv31.out; have a4 := hsv33.out; have a5 := hg8.out; have a6 := hl8.out; omega))
          have bN : Blk (((v33.setCell ⟨v1.heap.size, 0, none⟩ (.int .i64 ps)).setCell ⟨v1.heap.size, 1, none⟩ (.slice (some ⟨g8, 0, none⟩) 1 cap8)).setCell ⟨v1.heap.size, 2, none⟩ (.slice B xs.length ce)) v1.heap.size 25 #[.int .i64 ps, .slice (some ⟨g8, 0, none⟩) 1 cap8, .slice B xs.length ce] := (((bDv33).set 0 (.int .i64 ps)).set 1 (.slice (some ⟨g8, 0, none⟩) 1 cap8)).set 2 (.slice B xs.length ce)
          have hbN := ((hbv33.setCell (p := ⟨v1.heap.size, 0, none⟩) hgD (.int .i64 ps)).setCell (p := ⟨v1.heap.size, 1, none⟩) hgD (.slice (some ⟨g8, 0, none⟩) 1 cap8)).setCell (p := ⟨v1.heap.size, 2, none⟩) hgD (.slice B xs.length ce)
          have hIN : IRow (((v33.setCell ⟨v1.heap.size, 0, none⟩ (.int .i64 ps)).setCell ⟨v1.heap.size, 1, none⟩ (.slice (some ⟨g8, 0, none⟩) 1 cap8)).setCell ⟨v1.heap.size, 2, none⟩ (.slice B xs.length ce)) (((v33.setCell ⟨v1.heap.size, 0, none⟩ (.int .i64 ps)).setCell ⟨v1.heap.size, 1, none⟩ (.slice (some ⟨g8, 0, none⟩) 1 cap8)).setCell ⟨v1.heap.size, 2, none⟩ (.slice B xs.length ce)).heap.size (some ⟨g8, 0, none⟩) ([] ++ [t]) := row_far3 (row_ints hR8v33) (show g8 ≠ v1.heap.size from (by have a0 := hsv0.out; have a1 := hsv1.out; have a2 := hsv26.out; have a3 := hsv31.out; have a4 := hsv33.out; have a5 := hg8.out; have a6 := hl8.out; omega)) _ _ _
          have hcp := own_cap2 hR8v33
          clear z0 z1 z2 f0 f1 f2
          refine hK.out _ _ (OrdU.no (by kernel_rfl)) (fun _ => ?_)
          clear hK K'
          try simp only [Act.put, List.setIfInBounds_toArray, List.set_cons_zero, List.set_cons_succ]
          refine OrdU.wpAnyU_done (by kernel_rfl) ?_ _
          go_wp2_with fail
          go_meet
          exact ⟨_, g8, cap8, rfl, hbN, hgD, bN, hIN, hcp⟩
    · go_simp
      have hbv35 := hbv0.alloc (hbv0.size) (.cells #[.int .i64 t] 3)
      have bCv35 : Blk (v0.alloc (.cells #[.int .i64 t] 3)) v0.heap.size 3 #[.int .i64 t] := Blk.new v0 _ _
      have hsv35 : (v0.alloc (.cells #[.int .i64 t] 3)).heap.size = v0.heap.size + 1 := World.size_alloc _ _
      refine hK.out _ _ (fun _ => HBX.out _ (hb5.trans (hbv35.mono hb5.size))) (fun hHeld => ?_)
      replace hHeld := hHeld (by kernel_rfl)
      clear hK K'
      try simp only [Act.put, List.setIfInBounds_toArray, List.set_cons_zero, List.set_cons_succ]
      obtain ⟨v35, ev35⟩ : ∃ x, v0.alloc (.cells #[.int .i64 t] 3) = x := ⟨_, rfl⟩
      rw [ev35] at hbv35 bCv35 hsv35 hHeld ⊢
      clear ev35
      replace hsv35 := Lib.hid hsv35
      refine OrdU.wpAnyU_ready (rs := [2, 12]) (by kernel_rfl) (by simp) ?_
      refine (OrdU.AllReadyU.cons (o := ⟨some 52, _, _, _, _, none⟩) rfl (fun K' hK => ?_) (OrdU.AllReadyU.cons (o := ⟨some 12, _, _, _, _, none⟩) rfl (fun K' hK => ?_) OrdU.AllReadyU.nil))
      · go_simp
        have hbv36 := hbv35.alloc (hbv35.size) (.cells #[] 3)
        have bEv36 : Blk (v35.alloc (.cells #[] 3)) v35.heap.size 3 #[] := Blk.new v35 _ _
        have hsv36 : (v35.alloc (.cells #[] 3)).heap.size = v35.heap.size + 1 := World.size_alloc _ _
        have bCv36 := (bCv35).alloc (.cells #[] 3)
        refine hK.out _ _ (fun _ => HBX.out _ (hb5.trans (hbv36.mono hb5.size))) (fun hHeld => ?_)
        replace hHeld := hHeld (by kernel_rfl)
        clear hK K'
        try simp only [Act.put, List.setIfInBounds_toArray, List.set_cons_zero, List.set_cons_succ]
        obtain ⟨v36, ev36⟩ : ∃ x, v35.alloc (.cells #[] 3) = x := ⟨_, rfl⟩
        rw [ev36] at hbv36 bEv36 hsv36 bCv36 hHeld ⊢
        clear ev36
        replace hsv36 := Lib.hid hsv36
        refine OrdU.wpAnyU_ready (rs := [5, 12]) (by kernel_rfl) (by simp) ?_
        refine (OrdU.AllReadyU.cons (o := ⟨some 55, _, _, _, _, none⟩) rfl (fun K' hK => ?_) (OrdU.AllReadyU.cons (o := ⟨some 12, _, _, _, _, none⟩) rfl (fun K' hK => ?_) OrdU.AllReadyU.nil))
        · refine step_append_nothing rfl _ _ rfl v35.heap.size rfl A0 c0 rfl ?_
          refine hK.out _ _ (fun _ => HBX.out _ (hb5.trans (hbv36.mono hb5.size))) (fun hHeld => ?_)
          replace hHeld := hHeld (by kernel_rfl)
          clear hK K'
          try simp only [Act.put, List.setIfInBounds_toArray, List.set_cons_zero, List.set_cons_succ]
          have hR5v37 := row0 (base := w5.heap.size) bEv36 (show w5.heap.size ≤ v35.heap.size from (by have a0 := hsv0.out; have a1 := hsv35.out; have a2 := hsv36.out; omega))
          refine OrdU.wpAnyU_ready (rs := [8, 12]) (by kernel_rfl) (by simp) ?_
          refine (OrdU.AllReadyU.cons (o := ⟨some 58, _, _, _, _, none⟩) rfl (fun K' hK => ?_) (OrdU.AllReadyU.cons (o := ⟨some 12, _, _, _, _, none⟩) rfl (fun K' hK => ?_) OrdU.AllReadyU.nil))
          · refine step_append_lies _ (by rfl) _ _ _ (by rfl) w5.heap.size 3 ig _ 1 8 Try.underlying22 hig hz0 hz1 hz2 rfl (by omega) _ 0 [] (by rfl) hR5v37 ⟨v0.heap.size, 0, none⟩ 1 1 [.int .i64 t] (by rfl) (by rfl) (World.news_of_block (cs := #[.int .i64 t]) (t := 3) (fr := (0, 0)) bCv36) (by simp [Value.oneCell']) (by omega) (by simp only [maxLen]; omega) (by omega) (hbv36.size) (v36.heap.size) rfl ?_
            intro g8 cap8 v38 hR8v38 hgrow hat hlt
            have hbv38 := hbv36.grown hgrow (hbv36.size) (fun k e => ((hR5v37).lt k e).1)
            have hsv38 := Lib.hid (hgrow.size)
            have hg8 := Lib.hid (show g8 = v35.heap.size ∨ g8 = v36.heap.size from by rcases hat with q | q; (exact .inl (Option.some.inj q).symm); exact .inr q)
            have hl8 := Lib.hid (hR8v38.lt _ rfl).2
            clear hgrow hat
            refine hK.out _ _ (fun _ => HBX.out _ (hb5.trans (hbv38.mono hb5.size))) (fun hHeld => ?_)
            replace hHeld := hHeld (by kernel_rfl)
            clear hK K'
            try simp only [Act.put, List.setIfInBounds_toArray, List.set_cons_zero, List.set_cons_succ]
            try simp only [Nat.zero_add]
            refine OrdU.wpAnyU_take (i := 11) (oi := ⟨some 61, _, _, _, _, none⟩) (v := ?_) rfl (by kernel_rfl) (by kernel_rfl) (by kernel_rfl) (by decide) (by kernel_rfl) (fun _ _ _ h => h) (Or.inl ⟨by rfl, ?_⟩) (by assumption) ?_
            rotate_left
            · (intro w hSw; (try dsimp only at hSw); go_simp; (try with_reducible rfl))
            try simp only [Act.put, List.setIfInBounds_toArray, List.set_cons_zero, List.set_cons_succ]
            refine OrdU.wpAnyU_ready (rs := [12]) (by kernel_rfl) (by simp) ?_
            refine (OrdU.AllReadyU.cons (o := ⟨some 12, _, _, _, _, none⟩) rfl (fun K' hK => ?_) OrdU.AllReadyU.nil)
            go_simp
            have hbv39 := hbv38.alloc (hbv38.size) (.cells #[.int .i64 0, .slice none 0 0, .slice none 0 0] 25)
            have bDv39 : Blk (v38.alloc (.cells #[.int .i64 0, .slice none 0 0, .slice none 0 0] 25)) v38.heap.size 25 #[.int .i64 0, .slice none 0 0, .slice none 0 0] := Blk.new v38 _ _
            have hsv39 : (v38.alloc (.cells #[.int .i64 0, .slice none 0 0, .slice none 0 0] 25)).heap.size = v38.heap.size + 1 := World.size_alloc _ _
            have hR8v39 := (hR8v38).alloc (.cells #[.int .i64 0, .slice none 0 0, .slice none 0 0] 25)
            refine hK.out _ _ (fun _ => HBX.out _ (hb5.trans (hbv39.mono hb5.size))) (fun hHeld => ?_)
            replace hHeld := hHeld (by kernel_rfl)
            clear hK K'
            try simp only [Act.put, List.setIfInBounds_toArray, List.set_cons_zero, List.set_cons_succ]
            obtain ⟨v39, ev39⟩ : ∃ x, v38.alloc (.cells #[.int .i64 0, .slice none 0 0, .slice none 0 0] 25) = x := ⟨_, rfl⟩
            rw [ev39] at hbv39 bDv39 hsv39 hR8v39 hHeld ⊢
            clear ev39
            replace hsv39 := Lib.hid hsv39
            refine OrdU.wpAnyU_ready (rs := [13]) (by kernel_rfl) (by simp) ?_
            refine (OrdU.AllReadyU.cons (o := ⟨none, _, _, _, _, none⟩) rfl (fun K' hK => ?_) OrdU.AllReadyU.nil)
            obtain ⟨z0, z1, z2⟩ := (bDv39).three
            have f0 := (bDv39).frozen 0
            have f1 := (bDv39).frozen 1
            have f2 := (bDv39).frozen 2
            go_simp
            have hgD := (show w5.heap.size ≤ v38.heap.size from (by have a0 := hsv0.out; have a1 := hsv35.out; have a2 := hsv36.out; have a3 := hsv38.out; have a4 := hg8.out; have a5 := hl8.out; have a6 := hsv39.out; omega))
            have bN : Blk (((v39.setCell ⟨v38.heap.size, 0, none⟩ (.int .i64 ps)).setCell ⟨v38.heap.size, 1, none⟩ (.slice (some ⟨g8, 0, none⟩) 1 cap8)).setCell ⟨v38.heap.size, 2, none⟩ (.slice B xs.length ce)) v38.heap.size 25 #[.int .i64 ps, .slice (some ⟨g8, 0, none⟩) 1 cap8, .slice B xs.length ce] := (((bDv39).set 0 (.int .i64 ps)).set 1 (.slice (some ⟨g8, 0, none⟩) 1 cap8)).set 2 (.slice B xs.length ce)
            have hbN := ((hbv39.setCell (p := ⟨v38.heap.size, 0, none⟩) hgD (.int .i64 ps)).setCell (p := ⟨v38.heap.size, 1, none⟩) hgD (.slice (some ⟨g8, 0, none⟩) 1 cap8)).setCell (p := ⟨v38.heap.size, 2, none⟩) hgD (.slice B xs.length ce)
            have hIN : IRow (((v39.setCell ⟨v38.heap.size, 0, none⟩ (.int .i64 ps)).setCell ⟨v38.heap.size, 1, none⟩ (.slice (some ⟨g8, 0, none⟩) 1 cap8)).setCell ⟨v38.heap.size, 2, none⟩ (.slice B xs.length ce)) (((v39.setCell ⟨v38.heap.size, 0, none⟩ (.int .i64 ps)).setCell ⟨v38.heap.size, 1, none⟩ (.slice (some ⟨g8, 0, none⟩) 1 cap8)).setCell ⟨v38.heap.size, 2, none⟩ (.slice B xs.length ce)).heap.size (some ⟨g8, 0, none⟩) ([] ++ [t]) := row_far3 (row_ints hR8v39) (show g8 ≠ v38.heap.size from (by have a0 := hsv0.out; have a1 := hsv35.out; have a2 := hsv36.out; have a3 := hsv38.out; have a4 := hg8.out; have a5 := hl8.out; have a6 := hsv39.out; omega)) _ _ _
            have hcp := own_cap2 hR8v39
            clear z0 z1 z2 f0 f1 f2
            refine hK.out _ _ (OrdU.no (by kernel_rfl)) (fun _ => ?_)
            clear hK K'
            try simp only [Act.put, List.setIfInBounds_toArray, List.set_cons_zero, List.set_cons_succ]
            refine OrdU.wpAnyU_done (by kernel_rfl) ?_ _
            go_wp2_with fail
            go_meet
            exact ⟨_, g8, cap8, rfl, hbN, hgD, bN, hIN, hcp⟩
          · go_simp
            have hbv41 := hbv36.alloc (hbv36.size) (.cells #[.int .i64 0, .slice none 0 0, .slice none 0 0] 25)
            have bDv41 : Blk (v36.alloc (.cells #[.int .i64 0, .slice none 0 0, .slice none 0 0] 25)) v36.heap.size 25 #[.int .i64 0, .slice none 0 0, .slice none 0 0] := Blk.new v36 _ _
            have hsv41 : (v36.alloc (.cells #[.int .i64 0, .slice none 0 0, .slice none 0 0] 25)).heap.size = v36.heap.size + 1 := World.size_alloc _ _
            have bCv41 := (bCv36).alloc (.cells #[.int .i64 0, .slice none 0 0, .slice none 0 0] 25)
            have hR5v41 := (hR5v37).alloc (.cells #[.int .i64 0, .slice none 0 0, .slice none 0 0] 25)
            refine hK.out _ _ (fun _ => HBX.out _ (hb5.trans (hbv41.mono hb5.size))) (fun hHeld => ?_)
            replace hHeld := hHeld (by kernel_rfl)
            clear hK K'
            try simp only [Act.put, List.setIfInBounds_toArray, List.set_cons_zero, List.set_cons_succ]
            obtain ⟨v41, ev41⟩ : ∃ x, v36.alloc (.cells #[.int .i64 0, .slice none 0 0, .slice none 0 0] 25) = x := ⟨_, rfl⟩
            rw [ev41] at hbv41 bDv41 hsv41 bCv41 hR5v41 hHeld ⊢
            clear ev41
            replace hsv41 := Lib.hid hsv41
            refine OrdU.wpAnyU_ready (rs := [8]) (by kernel_rfl) (by simp) ?_
            refine (OrdU.AllReadyU.cons (o := ⟨some 58, _, _, _, _, none⟩) rfl (fun K' hK => ?_) OrdU.AllReadyU.nil)
            refine step_append_lies _ (by rfl) _ _ _ (by rfl) w5.heap.size 3 ig _ 1 8 Try.underlying22 hig hz0 hz1 hz2 rfl (by omega) _ 0 [] (by rfl) hR5v41 ⟨v0.heap.size, 0, none⟩ 1 1 [.int .i64 t] (by rfl) (by rfl) (World.news_of_block (cs := #[.int .i64 t]) (t := 3) (fr := (0, 0)) bCv41) (by simp [Value.oneCell']) (by omega) (by simp only [maxLen]; omega) (by omega) (hbv41.size) (v41.heap.size) rfl ?_
            intro g8 cap8 v42 hR8v42 hgrow hat hlt
            have hbv42 := hbv41.grown hgrow (hbv41.size) (fun k e => ((hR5v41).lt k e).1)
            have hsv42 := Lib.hid (hgrow.size)
            have hg8 := Lib.hid (show g8 = v35.heap.size ∨ g8 = v41.heap.size from by rcases hat with q | q; (exact .inl (Option.some.inj q).symm); exact .inr q)
            have hl8 := Lib.hid (hR8v42.lt _ rfl).2
            have bDv42 := (bDv41).grown hgrow (fun hq => absurd (show v36.heap.size = v35.heap.size from Option.some.inj hq) (by have a0 := hsv0.out; have a1 := hsv35.out; have a2 := hsv36.out; have a3 := hsv41.out; omega))
            clear hgrow hat
            refine hK.out _ _ (fun _ => HBX.out _ (hb5.trans (hbv42.mono hb5.size))) (fun hHeld => ?_)
            replace hHeld := hHeld (by kernel_rfl)
            clear hK K'
            try simp only [Act.put, List.setIfInBounds_toArray, List.set_cons_zero, List.set_cons_succ]
            try simp only [Nat.zero_add]
            refine OrdU.wpAnyU_take (i := 11) (oi := ⟨some 61, _, _, _, _, none⟩) (v := ?_) rfl (by kernel_rfl) (by kernel_rfl) (by kernel_rfl) (by decide) (by kernel_rfl) (fun _ _ _ h => h) (Or.inl ⟨by rfl, ?_⟩) (by assumption) ?_
            rotate_left
            · (intro w hSw; (try dsimp only at hSw); go_simp; (try with_reducible rfl))
            try simp only [Act.put, List.setIfInBounds_toArray, List.set_cons_zero, List.set_cons_succ]
            refine OrdU.wpAnyU_ready (rs := [13]) (by kernel_rfl) (by simp) ?_
            refine (OrdU.AllReadyU.cons (o := ⟨none, _, _, _, _, none⟩) rfl (fun K' hK => ?_) OrdU.AllReadyU.nil)
            obtain ⟨z0, z1, z2⟩ := (bDv42).three
            have f0 := (bDv42).frozen 0
            have f1 := (bDv42).frozen 1
            have f2 := (bDv42).frozen 2
            go_simp
            have hgD := (show w5.heap.size ≤ v36.heap.size from (by have a0 := hsv0.out; have a1 := hsv35.out; have a2 := hsv36.out; have a3 := hsv41.out; have a4 := hsv42.out; have a5 := hg8.out; have a6 := hl8.out; omega))
            have bN : Blk (((v42.setCell ⟨v36.heap.size, 0, none⟩ (.int .i64 ps)).setCell ⟨v36.heap.size, 1, none⟩ (.slice (some ⟨g8, 0, none⟩) 1 cap8)).setCell ⟨v36.heap.size, 2, none⟩ (.slice B xs.length ce)) v36.heap.size 25 #[.int .i64 ps, .slice (some ⟨g8, 0, none⟩) 1 cap8, .slice B xs.length ce] := (((bDv42).set 0 (.int .i64 ps)).set 1 (.slice (some ⟨g8, 0, none⟩) 1 cap8)).set 2 (.slice B xs.length ce)
            have hbN := ((hbv42.setCell (p := ⟨v36.heap.size, 0, none⟩) hgD (.int .i64 ps)).setCell (p := ⟨v36.heap.size, 1, none⟩) hgD (.slice (some ⟨g8, 0, none⟩) 1 cap8)).setCell (p := ⟨v36.heap.size, 2, none⟩) hgD (.slice B xs.length ce)
            have hIN : IRow (((v42.setCell ⟨v36.heap.size, 0, none⟩ (.int .i64 ps)).setCell ⟨v36.heap.size, 1, none⟩ (.slice (some ⟨g8, 0, none⟩) 1 cap8)).setCell ⟨v36.heap.size, 2, none⟩ (.slice B xs.length ce)) (((v42.setCell ⟨v36.heap.size, 0, none⟩ (.int .i64 ps)).setCell ⟨v36.heap.size, 1, none⟩ (.slice (some ⟨g8, 0, none⟩) 1 cap8)).setCell ⟨v36.heap.size, 2, none⟩ (.slice B xs.length ce)).heap.size (some ⟨g8, 0, none⟩) ([] ++ [t]) := row_far3 (row_ints hR8v42) (show g8 ≠ v36.heap.size from (by have a0 := hsv0.out; have a1 := hsv35.out; have a2 := hsv36.out; have a3 := hsv41.out; have a4 := hsv42.out; have a5 := hg8.out; have a6 := hl8.out; omega)) _ _ _
            have hcp := own_cap2 hR8v42
            clear z0 z1 z2 f0 f1 f2
            refine hK.out _ _ (OrdU.no (by kernel_rfl)) (fun _ => ?_)
            clear hK K'
            try simp only [Act.put, List.setIfInBounds_toArray, List.set_cons_zero, List.set_cons_succ]
            refine OrdU.wpAnyU_done (by kernel_rfl) ?_ _
            go_wp2_with fail
            go_meet
            exact ⟨_, g8, cap8, rfl, hbN, hgD, bN, hIN, hcp⟩
        · go_simp
          have hbv44 := hbv36.alloc (hbv36.size) (.cells #[.int .i64 0, .slice none 0 0, .slice none 0 0] 25)
          have bDv44 : Blk (v36.alloc (.cells #[.int .i64 0, .slice none 0 0, .slice none 0 0] 25)) v36.heap.size 25 #[.int .i64 0, .slice none 0 0, .slice none 0 0] := Blk.new v36 _ _
          have hsv44 : (v36.alloc (.cells #[.int .i64 0, .slice none 0 0, .slice none 0 0] 25)).heap.size = v36.heap.size + 1 := World.size_alloc _ _
          have bEv44 := (bEv36).alloc (.cells #[.int .i64 0, .slice none 0 0, .slice none 0 0] 25)
          have bCv44 := (bCv36).alloc (.cells #[.int .i64 0, .slice none 0 0, .slice none 0 0] 25)
          refine hK.out _ _ (fun _ => HBX.out _ (hb5.trans (hbv44.mono hb5.size))) (fun hHeld => ?_)
          replace hHeld := hHeld (by kernel_rfl)
          clear hK K'
          try simp only [Act.put, List.setIfInBounds_toArray, List.set_cons_zero, List.set_cons_succ]
          obtain ⟨v44, ev44⟩ : ∃ x, v36.alloc (.cells #[.int .i64 0, .slice none 0 0, .slice none 0 0] 25) = x := ⟨_, rfl⟩
          rw [ev44] at hbv44 bDv44 hsv44 bEv44 bCv44 hHeld ⊢
          clear ev44
          replace hsv44 := Lib.hid hsv44
          refine OrdU.wpAnyU_ready (rs := [5]) (by kernel_rfl) (by simp) ?_
          refine (OrdU.AllReadyU.cons (o := ⟨some 55, _, _, _, _, none⟩) rfl (fun K' hK => ?_) OrdU.AllReadyU.nil)
          refine step_append_nothing rfl _ _ rfl v35.heap.size rfl A0 c0 rfl ?_
          refine hK.out _ _ (fun _ => HBX.out _ (hb5.trans (hbv44.mono hb5.size))) (fun hHeld => ?_)
          replace hHeld := hHeld (by kernel_rfl)
          clear hK K'
          try simp only [Act.put, List.setIfInBounds_toArray, List.set_cons_zero, List.set_cons_succ]
          have hR5v45 := row0 (base := w5.heap.size) bEv44 (show w5.heap.size ≤ v35.heap.size from (by have a0 := hsv0.out; have a1 := hsv35.out; have a2 := hsv36.out; have a3 := hsv44.out; omega))
          refine OrdU.wpAnyU_ready (rs := [8]) (by kernel_rfl) (by simp) ?_
          refine (OrdU.AllReadyU.cons (o := ⟨some 58, _, _, _, _, none⟩) rfl (fun K' hK => ?_) OrdU.AllReadyU.nil)
          refine step_append_lies _ (by rfl) _ _ _ (by rfl) w5.heap.size 3 ig _ 1 8 Try.underlying22 hig hz0 hz1 hz2 rfl (by omega) _ 0 [] (by rfl) hR5v45 ⟨v0.heap.size, 0, none⟩ 1 1 [.int .i64 t] (by rfl) (by rfl) (World.news_of_block (cs := #[.int .i64 t]) (t := 3) (fr := (0, 0)) bCv44) (by simp [Value.oneCell']) (by omega) (by simp only [maxLen]; omega) (by omega) (hbv44.size) (v44.heap.size) rfl ?_
          intro g8 cap8 v46 hR8v46 hgrow hat hlt
          have hbv46 := hbv44.grown hgrow (hbv44.size) (fun k e => ((hR5v45).lt k e).1)
          have hsv46 := Lib.hid (hgrow.size)
          have hg8 := Lib.hid (show g8 = v35.heap.size ∨ g8 = v44.heap.size from by rcases hat with q | q; (exact .inl (Option.some.inj q).symm); exact .inr q)
          have hl8 := Lib.hid (hR8v46.lt _ rfl).2
          have bDv46 := (bDv44).grown hgrow (fun hq => absurd (show v36.heap.size = v35.heap.size from Option.some.inj hq) (by have a0 := hsv0.out; have a1 := hsv35.out; have a2 := hsv36.out; have a3 := hsv44.out; omega))
          clear hgrow hat
          refine hK.out _ _ (fun _ => HBX.out _ (hb5.trans (hbv46.mono hb5.size))) (fun hHeld => ?_)
          replace hHeld := hHeld (by kernel_rfl)
          clear hK K'
          try simp only [Act.put, List.setIfInBounds_toArray, List.set_cons_zero, List.set_cons_succ]
          try simp only [Nat.zero_add]
          refine OrdU.wpAnyU_take (i := 11) (oi := ⟨some 61, _, _, _, _, none⟩) (v := ?_) rfl (by kernel_rfl) (by kernel_rfl) (by kernel_rfl) (by decide) (by kernel_rfl) (fun _ _ _ h => h) (Or.inl ⟨by rfl, ?_⟩) (by assumption) ?_
          rotate_left
          · (intro w hSw; (try dsimp only at hSw); go_simp; (try with_reducible rfl))
          try simp only [Act.put, List.setIfInBounds_toArray, List.set_cons_zero, List.set_cons_succ]
          refine OrdU.wpAnyU_ready (rs := [13]) (by kernel_rfl) (by simp) ?_
          refine (OrdU.AllReadyU.cons (o := ⟨none, _, _, _, _, none⟩) rfl (fun K' hK => ?_) OrdU.AllReadyU.nil)
          obtain ⟨z0, z1, z2⟩ := (bDv46).three
          have f0 := (bDv46).frozen 0
          have f1 := (bDv46).frozen 1
          have f2 := (bDv46).frozen 2
          go_simp
          have hgD := (show w5.heap.size ≤ v36.heap.size from (by have a0 := hsv0.out; have a1 := hsv35.out; have a2 := hsv36.out; have a3 := hsv44.out; have a4 := hsv46.out; have a5 := hg8.out; have a6 := hl8.out; omega))
          have bN : Blk (((v46.setCell ⟨v36.heap.size, 0, none⟩ (.int .i64 ps)).setCell ⟨v36.heap.size, 1, none⟩ (.slice (some ⟨g8, 0, none⟩) 1 cap8)).setCell ⟨v36.heap.size, 2, none⟩ (.slice B xs.length ce)) v36.heap.size 25 #[.int .i64 ps, .slice (some ⟨g8, 0, none⟩) 1 cap8, .slice B xs.length ce] := (((bDv46).set 0 (.int .i64 ps)).set 1 (.slice (some ⟨g8, 0, none⟩) 1 cap8)).set 2 (.slice B xs.length ce)
          have hbN := ((hbv46.setCell (p := ⟨v36.heap.size, 0, none⟩) hgD (.int .i64 ps)).setCell (p := ⟨v36.heap.size, 1, none⟩) hgD (.slice (some ⟨g8, 0, none⟩) 1 cap8)).setCell (p := ⟨v36.heap.size, 2, none⟩) hgD (.slice B xs.length ce)
          have hIN : IRow (((v46.setCell ⟨v36.heap.size, 0, none⟩ (.int .i64 ps)).setCell ⟨v36.heap.size, 1, none⟩ (.slice (some ⟨g8, 0, none⟩) 1 cap8)).setCell ⟨v36.heap.size, 2, none⟩ (.slice B xs.length ce)) (((v46.setCell ⟨v36.heap.size, 0, none⟩ (.int .i64 ps)).setCell ⟨v36.heap.size, 1, none⟩ (.slice (some ⟨g8, 0, none⟩) 1 cap8)).setCell ⟨v36.heap.size, 2, none⟩ (.slice B xs.length ce)).heap.size (some ⟨g8, 0, none⟩) ([] ++ [t]) := row_far3 (row_ints hR8v46) (show g8 ≠ v36.heap.size from (by have a0 := hsv0.out; have a1 := hsv35.out; have a2 := hsv36.out; have a3 := hsv44.out; have a4 := hsv46.out; have a5 := hg8.out; have a6 := hl8.out; omega)) _ _ _
          have hcp := own_cap2 hR8v46
          clear z0 z1 z2 f0 f1 f2
          refine hK.out _ _ (OrdU.no (by kernel_rfl)) (fun _ => ?_)
          clear hK K'
          try simp only [Act.put, List.setIfInBounds_toArray, List.set_cons_zero, List.set_cons_succ]
          refine OrdU.wpAnyU_done (by kernel_rfl) ?_ _
          go_wp2_with fail
          go_meet
          exact ⟨_, g8, cap8, rfl, hbN, hgD, bN, hIN, hcp⟩
      · go_simp
        have hbv48 := hbv35.alloc (hbv35.size) (.cells #[.int .i64 0, .slice none 0 0, .slice none 0 0] 25)
        have bDv48 : Blk (v35.alloc (.cells #[.int .i64 0, .slice none 0 0, .slice none 0 0] 25)) v35.heap.size 25 #[.int .i64 0, .slice none 0 0, .slice none 0 0] := Blk.new v35 _ _
        have hsv48 : (v35.alloc (.cells #[.int .i64 0, .slice none 0 0, .slice none 0 0] 25)).heap.size = v35.heap.size + 1 := World.size_alloc _ _
        have bCv48 := (bCv35).alloc (.cells #[.int .i64 0, .slice none 0 0, .slice none 0 0] 25)
        refine hK.out _ _ (fun _ => HBX.out _ (hb5.trans (hbv48.mono hb5.size))) (fun hHeld => ?_)
        replace hHeld := hHeld (by kernel_rfl)
        clear hK K'
        try simp only [Act.put, List.setIfInBounds_toArray, List.set_cons_zero, List.set_cons_succ]
        obtain ⟨v48, ev48⟩ : ∃ x, v35.alloc (.cells #[.int .i64 0, .slice none 0 0, .slice none 0 0] 25) = x := ⟨_, rfl⟩
        rw [ev48] at hbv48 bDv48 hsv48 bCv48 hHeld ⊢
        clear ev48
        replace hsv48 := Lib.hid hsv48
        refine OrdU.wpAnyU_ready (rs := [2]) (by kernel_rfl) (by simp) ?_
        refine (OrdU.AllReadyU.cons (o := ⟨some 52, _, _, _, _, none⟩) rfl (fun K' hK => ?_) OrdU.AllReadyU.nil)
        go_simp
        have hbv49 := hbv48.alloc (hbv48.size) (.cells #[] 3)
        have bEv49 : Blk (v48.alloc (.cells #[] 3)) v48.heap.size 3 #[] := Blk.new v48 _ _
        have hsv49 : (v48.alloc (.cells #[] 3)).heap.size = v48.heap.size + 1 := World.size_alloc _ _
        have bCv49 := (bCv48).alloc (.cells #[] 3)
        have bDv49 := (bDv48).alloc (.cells #[] 3)
        refine hK.out _ _ (fun _ => HBX.out _ (hb5.trans (hbv49.mono hb5.size))) (fun hHeld => ?_)
        replace hHeld := hHeld (by kernel_rfl)
        clear hK K'
        try simp only [Act.put, List.setIfInBounds_toArray, List.set_cons_zero, List.set_cons_succ]
        obtain ⟨v49, ev49⟩ : ∃ x, v48.alloc (.cells #[] 3) = x := ⟨_, rfl⟩
        rw [ev49] at hbv49 bEv49 hsv49 bCv49 bDv49 hHeld ⊢
        clear ev49
        replace hsv49 := Lib.hid hsv49
        refine OrdU.wpAnyU_ready (rs := [5]) (by kernel_rfl) (by simp) ?_
        refine (OrdU.AllReadyU.cons (o := ⟨some 55, _, _, _, _, none⟩) rfl (fun K' hK => ?_) OrdU.AllReadyU.nil)
        refine step_append_nothing rfl _ _ rfl v48.heap.size rfl A0 c0 rfl ?_
        refine hK.out _ _ (fun _ => HBX.out _ (hb5.trans (hbv49.mono hb5.size))) (fun hHeld => ?_)
        replace hHeld := hHeld (by kernel_rfl)
        clear hK K'
        try simp only [Act.put, List.setIfInBounds_toArray, List.set_cons_zero, List.set_cons_succ]
        have hR5v50 := row0 (base := w5.heap.size) bEv49 (show w5.heap.size ≤ v48.heap.size from (by have a0 := hsv0.out; have a1 := hsv35.out; have a2 := hsv48.out; have a3 := hsv49.out; omega))
        refine OrdU.wpAnyU_ready (rs := [8]) (by kernel_rfl) (by simp) ?_
        refine (OrdU.AllReadyU.cons (o := ⟨some 58, _, _, _, _, none⟩) rfl (fun K' hK => ?_) OrdU.AllReadyU.nil)
        refine step_append_lies _ (by rfl) _ _ _ (by rfl) w5.heap.size 3 ig _ 1 8 Try.underlying22 hig hz0 hz1 hz2 rfl (by omega) _ 0 [] (by rfl) hR5v50 ⟨v0.heap.size, 0, none⟩ 1 1 [.int .i64 t] (by rfl) (by rfl) (World.news_of_block (cs := #[.int .i64 t]) (t := 3) (fr := (0, 0)) bCv49) (by simp [Value.oneCell']) (by omega) (by simp only [maxLen]; omega) (by omega) (hbv49.size) (v49.heap.size) rfl ?_
        intro g8 cap8 v51 hR8v51 hgrow hat hlt
        have hbv51 := hbv49.grown hgrow (hbv49.size) (fun k e => ((hR5v50).lt k e).1)
        have hsv51 := Lib.hid (hgrow.size)
        have hg8 := Lib.hid (show g8 = v48.heap.size ∨ g8 = v49.heap.size from by rcases hat with q | q; (exact .inl (Option.some.inj q).symm); exact .inr q)
        have hl8 := Lib.hid (hR8v51.lt _ rfl).2
        have bDv51 := (bDv49).grown hgrow (fun hq => absurd (show v35.heap.size = v48.heap.size from Option.some.inj hq) (by have a0 := hsv0.out; have a1 := hsv35.out; have a2 := hsv48.out; have a3 := hsv49.out; omega))
        clear hgrow hat
        refine hK.out _ _ (fun _ => HBX.out _ (hb5.trans (hbv51.mono hb5.size))) (fun hHeld => ?_)
        replace hHeld := hHeld (by kernel_rfl)
        clear hK K'
        try simp only [Act.put, List.setIfInBounds_toArray, List.set_cons_zero, List.set_cons_succ]
        try simp only [Nat.zero_add]
        refine OrdU.wpAnyU_take (i := 11) (oi := ⟨some 61, _, _, _, _, none⟩) (v := ?_) rfl (by kernel_rfl) (by kernel_rfl) (by kernel_rfl) (by decide) (by kernel_rfl) (fun _ _ _ h => h) (Or.inl ⟨by rfl, ?_⟩) (by assumption) ?_
        rotate_left
        · (intro w hSw; (try dsimp only at hSw); go_simp; (try with_reducible rfl))
        try simp only [Act.put, List.setIfInBounds_toArray, List.set_cons_zero, List.set_cons_succ]
        refine OrdU.wpAnyU_ready (rs := [13]) (by kernel_rfl) (by simp) ?_
        refine (OrdU.AllReadyU.cons (o := ⟨none, _, _, _, _, none⟩) rfl (fun K' hK => ?_) OrdU.AllReadyU.nil)
        obtain ⟨z0, z1, z2⟩ := (bDv51).three
        have f0 := (bDv51).frozen 0
        have f1 := (bDv51).frozen 1
        have f2 := (bDv51).frozen 2
        go_simp
        have hgD := (show w5.heap.size ≤ v35.heap.size from (by have a0 := hsv0.out; have a1 := hsv35.out; have a2 := hsv48.out; have a3 := hsv49.out; have a4 := hsv51.out; have a5 := hg8.out; have a6 := hl8.out; omega))
        have bN : Blk (((v51.setCell ⟨v35.heap.size, 0, none⟩ (.int .i64 ps)).setCell ⟨v35.heap.size, 1, none⟩ (.slice (some ⟨g8, 0, none⟩) 1 cap8)).setCell ⟨v35.heap.size, 2, none⟩ (.slice B xs.length ce)) v35.heap.size 25 #[.int .i64 ps, .slice (some ⟨g8, 0, none⟩) 1 cap8, .slice B xs.length ce] := (((bDv51).set 0 (.int .i64 ps)).set 1 (.slice (some ⟨g8, 0, none⟩) 1 cap8)).set 2 (.slice B xs.length ce)
        have hbN := ((hbv51.setCell (p := ⟨v35.heap.size, 0, none⟩) hgD (.int .i64 ps)).setCell (p := ⟨v35.heap.size, 1, none⟩) hgD (.slice (some ⟨g8, 0, none⟩) 1 cap8)).setCell (p := ⟨v35.heap.size, 2, none⟩) hgD (.slice B xs.length ce)
        have hIN : IRow (((v51.setCell ⟨v35.heap.size, 0, none⟩ (.int .i64 ps)).setCell ⟨v35.heap.size, 1, none⟩ (.slice (some ⟨g8, 0, none⟩) 1 cap8)).setCell ⟨v35.heap.size, 2, none⟩ (.slice B xs.length ce)) (((v51.setCell ⟨v35.heap.size, 0, none⟩ (.int .i64 ps)).setCell ⟨v35.heap.size, 1, none⟩ (.slice (some ⟨g8, 0, none⟩) 1 cap8)).setCell ⟨v35.heap.size, 2, none⟩ (.slice B xs.length ce)).heap.size (some ⟨g8, 0, none⟩) ([] ++ [t]) := row_far3 (row_ints hR8v51) (show g8 ≠ v35.heap.size from (by have a0 := hsv0.out; have a1 := hsv35.out; have a2 := hsv48.out; have a3 := hsv49.out; have a4 := hsv51.out; have a5 := hg8.out; have a6 := hl8.out; omega)) _ _ _
        have hcp := own_cap2 hR8v51
        clear z0 z1 z2 f0 f1 f2
        refine hK.out _ _ (OrdU.no (by kernel_rfl)) (fun _ => ?_)
        clear hK K'
        try simp only [Act.put, List.setIfInBounds_toArray, List.set_cons_zero, List.set_cons_succ]
        refine OrdU.wpAnyU_done (by kernel_rfl) ?_ _
        go_wp2_with fail
        go_meet
        exact ⟨_, g8, cap8, rfl, hbN, hgD, bN, hIN, hcp⟩
    · go_simp
      have hbv53 := hbv0.alloc (hbv0.size) (.cells #[.int .i64 0, .slice none 0 0, .slice none 0 0] 25)
      have bDv53 : Blk (v0.alloc (.cells #[.int .i64 0, .slice none 0 0, .slice none 0 0] 25)) v0.heap.size 25 #[.int .i64 0, .slice none 0 0, .slice none 0 0] := Blk.new v0 _ _
      have hsv53 : (v0.alloc (.cells #[.int .i64 0, .slice none 0 0, .slice none 0 0] 25)).heap.size = v0.heap.size + 1 := World.size_alloc _ _
      refine hK.out _ _ (fun _ => HBX.out _ (hb5.trans (hbv53.mono hb5.size))) (fun hHeld => ?_)
      replace hHeld := hHeld (by kernel_rfl)
      clear hK K'
      try simp only [Act.put, List.setIfInBounds_toArray, List.set_cons_zero, List.set_cons_succ]
      obtain ⟨v53, ev53⟩ : ∃ x, v0.alloc (.cells #[.int .i64 0, .slice none 0 0, .slice none 0 0] 25) = x := ⟨_, rfl⟩
      rw [ev53] at hbv53 bDv53 hsv53 hHeld ⊢
      clear ev53
      replace hsv53 := Lib.hid hsv53
      refine OrdU.wpAnyU_ready (rs := [2, 7]) (by kernel_rfl) (by simp) ?_
      refine (OrdU.AllReadyU.cons (o := ⟨some 52, _, _, _, _, none⟩) rfl (fun K' hK => ?_) (OrdU.AllReadyU.cons (o := ⟨some 57, _, _, _, _, none⟩) rfl (fun K' hK => ?_) OrdU.AllReadyU.nil))
      · go_simp
        have hbv54 := hbv53.alloc (hbv53.size) (.cells #[] 3)
        have bEv54 : Blk (v53.alloc (.cells #[] 3)) v53.heap.size 3 #[] := Blk.new v53 _ _
        have hsv54 : (v53.alloc (.cells #[] 3)).heap.size = v53.heap.size + 1 := World.size_alloc _ _
        have bDv54 := (bDv53).alloc (.cells #[] 3)
        refine hK.out _ _ (fun _ => HBX.out _ (hb5.trans (hbv54.mono hb5.size))) (fun hHeld => ?_)
        replace hHeld := hHeld (by kernel_rfl)
        clear hK K'
        try simp only [Act.put, List.setIfInBounds_toArray, List.set_cons_zero, List.set_cons_succ]
        obtain ⟨v54, ev54⟩ : ∃ x, v53.alloc (.cells #[] 3) = x := ⟨_, rfl⟩
        rw [ev54] at hbv54 bEv54 hsv54 bDv54 hHeld ⊢
        clear ev54
        replace hsv54 := Lib.hid hsv54
        refine OrdU.wpAnyU_ready (rs := [5, 7]) (by kernel_rfl) (by simp) ?_
        refine (OrdU.AllReadyU.cons (o := ⟨some 55, _, _, _, _, none⟩) rfl (fun K' hK => ?_) (OrdU.AllReadyU.cons (o := ⟨some 57, _, _, _, _, none⟩) rfl (fun K' hK => ?_) OrdU.AllReadyU.nil))
        · refine step_append_nothing rfl _ _ rfl v53.heap.size rfl A0 c0 rfl ?_
          refine hK.out _ _ (fun _ => HBX.out _ (hb5.trans (hbv54.mono hb5.size))) (fun hHeld => ?_)
          replace hHeld := hHeld (by kernel_rfl)
          clear hK K'
          try simp only [Act.put, List.setIfInBounds_toArray, List.set_cons_zero, List.set_cons_succ]
          have hR5v55 := row0 (base := w5.heap.size) bEv54 (show w5.heap.size ≤ v53.heap.size from (by have a0 := hsv0.out; have a1 := hsv53.out; have a2 := hsv54.out; omega))
          refine OrdU.wpAnyU_ready (rs := [7]) (by kernel_rfl) (by simp) ?_
          refine (OrdU.AllReadyU.cons (o := ⟨some 57, _, _, _, _, none⟩) rfl (fun K' hK => ?_) OrdU.AllReadyU.nil)
          go_simp
          have hbv56 := hbv54.alloc (hbv54.size) (.cells #[.int .i64 t] 3)
          have bCv56 : Blk (v54.alloc (.cells #[.int .i64 t] 3)) v54.heap.size 3 #[.int .i64 t] := Blk.new v54 _ _
          have hsv56 : (v54.alloc (.cells #[.int .i64 t] 3)).heap.size = v54.heap.size + 1 := World.size_alloc _ _
          have bDv56 := (bDv54).alloc (.cells #[.int .i64 t] 3)
          have hR5v56 := (hR5v55).alloc (.cells #[.int .i64 t] 3)
          refine hK.out _ _ (fun _ => HBX.out _ (hb5.trans (hbv56.mono hb5.size))) (fun hHeld => ?_)
          replace hHeld := hHeld (by kernel_rfl)
          clear hK K'
          try simp only [Act.put, List.setIfInBounds_toArray, List.set_cons_zero, List.set_cons_succ]
          obtain ⟨v56, ev56⟩ : ∃ x, v54.alloc (.cells #[.int .i64 t] 3) = x := ⟨_, rfl⟩
          rw [ev56] at hbv56 bCv56 hsv56 bDv56 hR5v56 hHeld ⊢
          clear ev56
          replace hsv56 := Lib.hid hsv56
          refine OrdU.wpAnyU_ready (rs := [8]) (by kernel_rfl) (by simp) ?_
          refine (OrdU.AllReadyU.cons (o := ⟨some 58, _, _, _, _, none⟩) rfl (fun K' hK => ?_) OrdU.AllReadyU.nil)
          refine step_append_lies _ (by rfl) _ _ _ (by rfl) w5.heap.size 3 ig _ 1 8 Try.underlying22 hig hz0 hz1 hz2 rfl (by omega) _ 0 [] (by rfl) hR5v56 ⟨v54.heap.size, 0, none⟩ 1 1 [.int .i64 t] (by rfl) (by rfl) (World.news_of_block (cs := #[.int .i64 t]) (t := 3) (fr := (0, 0)) bCv56) (by simp [Value.oneCell']) (by omega) (by simp only [maxLen]; omega) (by omega) (hbv56.size) (v56.heap.size) rfl ?_
          intro g8 cap8 v57 hR8v57 hgrow hat hlt
          have hbv57 := hbv56.grown hgrow (hbv56.size) (fun k e => ((hR5v56).lt k e).1)
          have hsv57 := Lib.hid (hgrow.size)
          have hg8 := Lib.hid (show g8 = v53.heap.size ∨ g8 = v56.heap.size from by rcases hat with q | q; (exact .inl (Option.some.inj q).symm); exact .inr q)
          have hl8 := Lib.hid (hR8v57.lt _ rfl).2
          have bDv57 := (bDv56).grown hgrow (fun hq => absurd (show v0.heap.size = v53.heap.size from Option.some.inj hq) (by have a0 := hsv0.out; have a1 := hsv53.out; have a2 := hsv54.out; have a3 := hsv56.out; omega))
          clear hgrow hat
          refine hK.out _ _ (fun _ => HBX.out _ (hb5.trans (hbv57.mono hb5.size))) (fun hHeld => ?_)
          replace hHeld := hHeld (by kernel_rfl)
          clear hK K'
          try simp only [Act.put, List.setIfInBounds_toArray, List.set_cons_zero, List.set_cons_succ]
          try simp only [Nat.zero_add]
          refine OrdU.wpAnyU_take (i := 11) (oi := ⟨some 61, _, _, _, _, none⟩) (v := ?_) rfl (by kernel_rfl) (by kernel_rfl) (by kernel_rfl) (by decide) (by kernel_rfl) (fun _ _ _ h => h) (Or.inl ⟨by rfl, ?_⟩) (by assumption) ?_
          rotate_left
          · (intro w hSw; (try dsimp only at hSw); go_simp; (try with_reducible rfl))
          try simp only [Act.put, List.setIfInBounds_toArray, List.set_cons_zero, List.set_cons_succ]
          refine OrdU.wpAnyU_ready (rs := [13]) (by kernel_rfl) (by simp) ?_
          refine (OrdU.AllReadyU.cons (o := ⟨none, _, _, _, _, none⟩) rfl (fun K' hK => ?_) OrdU.AllReadyU.nil)
          obtain ⟨z0, z1, z2⟩ := (bDv57).three
          have f0 := (bDv57).frozen 0
          have f1 := (bDv57).frozen 1
          have f2 := (bDv57).frozen 2
          go_simp
          have hgD := (show w5.heap.size ≤ v0.heap.size from (by have a0 := hsv0.out; have a1 := hsv53.out; have a2 := hsv54.out; have a3 := hsv56.out; have a4 := hsv57.out; have a5 := hg8.out; have a6 := hl8.out; omega))
          have bN : Blk (((v57.setCell ⟨v0.heap.size, 0, none⟩ (.int .i64 ps)).setCell ⟨v0.heap.size, 1, none⟩ (.slice (some ⟨g8, 0, none⟩) 1 cap8)).setCell ⟨v0.heap.size, 2, none⟩ (.slice B xs.length ce)) v0.heap.size 25 #[.int .i64 ps, .slice (some ⟨g8, 0, none⟩) 1 cap8, .slice B xs.length ce] := (((bDv57).set 0 (.int .i64 ps)).set 1 (.slice (some ⟨g8, 0, none⟩) 1 cap8)).set 2 (.slice B xs.length ce)
          have hbN := ((hbv57.setCell (p := ⟨v0.heap.size, 0, none⟩) hgD (.int .i64 ps)).setCell (p := ⟨v0.heap.size, 1, none⟩) hgD (.slice (some ⟨g8, 0, none⟩) 1 cap8)).setCell (p := ⟨v0.heap.size, 2, none⟩) hgD (.slice B xs.length ce)
          have hIN : IRow (((v57.setCell ⟨v0.heap.size, 0, none⟩ (.int .i64 ps)).setCell ⟨v0.heap.size, 1, none⟩ (.slice (some ⟨g8, 0, none⟩) 1 cap8)).setCell ⟨v0.heap.size, 2, none⟩ (.slice B xs.length ce)) (((v57.setCell ⟨v0.heap.size, 0, none⟩ (.int .i64 ps)).setCell ⟨v0.heap.size, 1, none⟩ (.slice (some ⟨g8, 0, none⟩) 1 cap8)).setCell ⟨v0.heap.size, 2, none⟩ (.slice B xs.length ce)).heap.size (some ⟨g8, 0, none⟩) ([] ++ [t]) := row_far3 (row_ints hR8v57) (show g8 ≠ v0.heap.size from (by have a0 := hsv0.out; have a1 := hsv53.out; have a2 := hsv54.out; have a3 := hsv56.out; have a4 := hsv57.out; have a5 := hg8.out; have a6 := hl8.out; omega)) _ _ _
          have hcp := own_cap2 hR8v57
          clear z0 z1 z2 f0 f1 f2
          refine hK.out _ _ (OrdU.no (by kernel_rfl)) (fun _ => ?_)
          clear hK K'
          try simp only [Act.put, List.setIfInBounds_toArray, List.set_cons_zero, List.set_cons_succ]
          refine OrdU.wpAnyU_done (by kernel_rfl) ?_ _
          go_wp2_with fail
          go_meet
          exact ⟨_, g8, cap8, rfl, hbN, hgD, bN, hIN, hcp⟩
        · go_simp
          have hbv59 := hbv54.alloc (hbv54.size) (.cells #[.int .i64 t] 3)
          have bCv59 : Blk (v54.alloc (.cells #[.int .i64 t] 3)) v54.heap.size 3 #[.int .i64 t] := Blk.new v54 _ _
          have hsv59 : (v54.alloc (.cells #[.int .i64 t] 3)).heap.size = v54.heap.size + 1 := World.size_alloc _ _
          have bEv59 := (bEv54).alloc (.cells #[.int .i64 t] 3)
          have bDv59 := (bDv54).alloc (.cells #[.int .i64 t] 3)
          refine hK.out _ _ (fun _ => HBX.out _ (hb5.trans (hbv59.mono hb5.size))) (fun hHeld => ?_)
          replace hHeld := hHeld (by kernel_rfl)
          clear hK K'
          try simp only [Act.put, List.setIfInBounds_toArray, List.set_cons_zero, List.set_cons_succ]
          obtain ⟨v59, ev59⟩ : ∃ x, v54.alloc (.cells #[.int .i64 t] 3) = x := ⟨_, rfl⟩
          rw [ev59] at hbv59 bCv59 hsv59 bEv59 bDv59 hHeld ⊢
          clear ev59
          replace hsv59 := Lib.hid hsv59
          refine OrdU.wpAnyU_ready (rs := [5]) (by kernel_rfl) (by simp) ?_
          refine (OrdU.AllReadyU.cons (o := ⟨some 55, _, _, _, _, none⟩) rfl (fun K' hK => ?_) OrdU.AllReadyU.nil)
          refine step_append_nothing rfl _ _ rfl v53.heap.size rfl A0 c0 rfl ?_
          refine hK.out _ _ (fun _ => HBX.out _ (hb5.trans (hbv59.mono hb5.size))) (fun hHeld => ?_)
          replace hHeld := hHeld (by kernel_rfl)
          clear hK K'
          try simp only [Act.put, List.setIfInBounds_toArray, List.set_cons_zero, List.set_cons_succ]
          have hR5v60 := row0 (base := w5.heap.size) bEv59 (show w5.heap.size ≤ v53.heap.size from (by have a0 := hsv0.out; have a1 := hsv53.out; have a2 := hsv54.out; have a3 := hsv59.out; omega))
          refine OrdU.wpAnyU_ready (rs := [8]) (by kernel_rfl) (by simp) ?_
          refine (OrdU.AllReadyU.cons (o := ⟨some 58, _, _, _, _, none⟩) rfl (fun K' hK => ?_) OrdU.AllReadyU.nil)
          refine step_append_lies _ (by rfl) _ _ _ (by rfl) w5.heap.size 3 ig _ 1 8 Try.underlying22 hig hz0 hz1 hz2 rfl (by omega) _ 0 [] (by rfl) hR5v60 ⟨v54.heap.size, 0, none⟩ 1 1 [.int .i64 t] (by rfl) (by rfl) (World.news_of_block (cs := #[.int .i64 t]) (t := 3) (fr := (0, 0)) bCv59) (by simp [Value.oneCell']) (by omega) (by simp only [maxLen]; omega) (by omega) (hbv59.size) (v59.heap.size) rfl ?_
          intro g8 cap8 v61 hR8v61 hgrow hat hlt
          have hbv61 := hbv59.grown hgrow (hbv59.size) (fun k e => ((hR5v60).lt k e).1)
          have hsv61 := Lib.hid (hgrow.size)
          have hg8 := Lib.hid (show g8 = v53.heap.size ∨ g8 = v59.heap.size from by rcases hat with q | q; (exact .inl (Option.some.inj q).symm); exact .inr q)
          have hl8 := Lib.hid (hR8v61.lt _ rfl).2
          have bDv61 := (bDv59).grown hgrow (fun hq => absurd (show v0.heap.size = v53.heap.size from Option.some.inj hq) (by have a0 := hsv0.out; have a1 := hsv53.out; have a2 := hsv54.out; have a3 := hsv59.out; omega))
          clear hgrow hat
          refine hK.out _ _ (fun _ => HBX.out _ (hb5.trans (hbv61.mono hb5.size))) (fun hHeld => ?_)
          replace hHeld := hHeld (by kernel_rfl)
          clear hK K'
          try simp only [Act.put, List.setIfInBounds_toArray, List.set_cons_zero, List.set_cons_succ]
          try simp only [Nat.zero_add]
          refine OrdU.wpAnyU_take (i := 11) (oi := ⟨some 61, _, _, _, _, none⟩) (v := ?_) rfl (by kernel_rfl) (by kernel_rfl) (by kernel_rfl) (by decide) (by kernel_rfl) (fun _ _ _ h => h) (Or.inl ⟨by rfl, ?_⟩) (by assumption) ?_
          rotate_left
          · (intro w hSw; (try dsimp only at hSw); go_simp; (try with_reducible rfl))
          try simp only [Act.put, List.setIfInBounds_toArray, List.set_cons_zero, List.set_cons_succ]
          refine OrdU.wpAnyU_ready (rs := [13]) (by kernel_rfl) (by simp) ?_
          refine (OrdU.AllReadyU.cons (o := ⟨none, _, _, _, _, none⟩) rfl (fun K' hK => ?_) OrdU.AllReadyU.nil)
          obtain ⟨z0, z1, z2⟩ := (bDv61).three
          have f0 := (bDv61).frozen 0
          have f1 := (bDv61).frozen 1
          have f2 := (bDv61).frozen 2
          go_simp
          have hgD := (show w5.heap.size ≤ v0.heap.size from (by have a0 := hsv0.out; have a1 := hsv53.out; have a2 := hsv54.out; have a3 := hsv59.out; have a4 := hsv61.out; have a5 := hg8.out; have a6 := hl8.out; omega))
          have bN : Blk (((v61.setCell ⟨v0.heap.size, 0, none⟩ (.int .i64 ps)).setCell ⟨v0.heap.size, 1, none⟩ (.slice (some ⟨g8, 0, none⟩) 1 cap8)).setCell ⟨v0.heap.size, 2, none⟩ (.slice B xs.length ce)) v0.heap.size 25 #[.int .i64 ps, .slice (some ⟨g8, 0, none⟩) 1 cap8, .slice B xs.length ce] := (((bDv61).set 0 (.int .i64 ps)).set 1 (.slice (some ⟨g8, 0, none⟩) 1 cap8)).set 2 (.slice B xs.length ce)
          have hbN := ((hbv61.setCell (p := ⟨v0.heap.size, 0, none⟩) hgD (.int .i64 ps)).setCell (p := ⟨v0.heap.size, 1, none⟩) hgD (.slice (some ⟨g8, 0, none⟩) 1 cap8)).setCell (p := ⟨v0.heap.size, 2, none⟩) hgD (.slice B xs.length ce)
          have hIN : IRow (((v61.setCell ⟨v0.heap.size, 0, none⟩ (.int .i64 ps)).setCell ⟨v0.heap.size, 1, none⟩ (.slice (some ⟨g8, 0, none⟩) 1 cap8)).setCell ⟨v0.heap.size, 2, none⟩ (.slice B xs.length ce)) (((v61.setCell ⟨v0.heap.size, 0, none⟩ (.int .i64 ps)).setCell ⟨v0.heap.size, 1, none⟩ (.slice (some ⟨g8, 0, none⟩) 1 cap8)).setCell ⟨v0.heap.size, 2, none⟩ (.slice B xs.length ce)).heap.size (some ⟨g8, 0, none⟩) ([] ++ [t]) := row_far3 (row_ints hR8v61) (show g8 ≠ v0.heap.size from (by have a0 := hsv0.out; have a1 := hsv53.out; have a2 := hsv54.out; have a3 := hsv59.out; have a4 := hsv61.out; have a5 := hg8.out; have a6 := hl8.out; omega)) _ _ _
          have hcp := own_cap2 hR8v61
          clear z0 z1 z2 f0 f1 f2
          refine hK.out _ _ (OrdU.no (by kernel_rfl)) (fun _ => ?_)
          clear hK K'
          try simp only [Act.put, List.setIfInBounds_toArray, List.set_cons_zero, List.set_cons_succ]
          refine OrdU.wpAnyU_done (by kernel_rfl) ?_ _
          go_wp2_with fail
          go_meet
          exact ⟨_, g8, cap8, rfl, hbN, hgD, bN, hIN, hcp⟩
      · go_simp
        have hbv63 := hbv53.alloc (hbv53.size) (.cells #[.int .i64 t] 3)
        have bCv63 : Blk (v53.alloc (.cells #[.int .i64 t] 3)) v53.heap.size 3 #[.int .i64 t] := Blk.new v53 _ _
        have hsv63 : (v53.alloc (.cells #[.int .i64 t] 3)).heap.size = v53.heap.size + 1 := World.size_alloc _ _
        have bDv63 := (bDv53).alloc (.cells #[.int .i64 t] 3)
        refine hK.out _ _ (fun _ => HBX.out _ (hb5.trans (hbv63.mono hb5.size))) (fun hHeld => ?_)
        replace hHeld := hHeld (by kernel_rfl)
        clear hK K'
        try simp only [Act.put, List.setIfInBounds_toArray, List.set_cons_zero, List.set_cons_succ]
        obtain ⟨v63, ev63⟩ : ∃ x, v53.alloc (.cells #[.int .i64 t] 3) = x := ⟨_, rfl⟩
        rw [ev63] at hbv63 bCv63 hsv63 bDv63 hHeld ⊢
        clear ev63
        replace hsv63 := Lib.hid hsv63
        refine OrdU.wpAnyU_ready (rs := [2]) (by kernel_rfl) (by simp) ?_
        refine (OrdU.AllReadyU.cons (o := ⟨some 52, _, _, _, _, none⟩) rfl (fun K' hK => ?_) OrdU.AllReadyU.nil)
        go_simp
        have hbv64 := hbv63.alloc (hbv63.size) (.cells #[] 3)
        have bEv64 : Blk (v63.alloc (.cells #[] 3)) v63.heap.size 3 #[] := Blk.new v63 _ _
        have hsv64 : (v63.alloc (.cells #[] 3)).heap.size = v63.heap.size + 1 := World.size_alloc _ _
        have bCv64 := (bCv63).alloc (.cells #[] 3)
        have bDv64 := (bDv63).alloc (.cells #[] 3)
        refine hK.out _ _ (fun _ => HBX.out _ (hb5.trans (hbv64.mono hb5.size))) (fun hHeld => ?_)
        replace hHeld := hHeld (by kernel_rfl)
        clear hK K'
        try simp only [Act.put, List.setIfInBounds_toArray, List.set_cons_zero, List.set_cons_succ]
        obtain ⟨v64, ev64⟩ : ∃ x, v63.alloc (.cells #[] 3) = x := ⟨_, rfl⟩
        rw [ev64] at hbv64 bEv64 hsv64 bCv64 bDv64 hHeld ⊢
        clear ev64
        replace hsv64 := Lib.hid hsv64
        refine OrdU.wpAnyU_ready (rs := [5]) (by kernel_rfl) (by simp) ?_
        refine (OrdU.AllReadyU.cons (o := ⟨some 55, _, _, _, _, none⟩) rfl (fun K' hK => ?_) OrdU.AllReadyU.nil)
        refine step_append_nothing rfl _ _ rfl v63.heap.size rfl A0 c0 rfl ?_
        refine hK.out _ _ (fun _ => HBX.out _ (hb5.trans (hbv64.mono hb5.size))) (fun hHeld => ?_)
        replace hHeld := hHeld (by kernel_rfl)
        clear hK K'
        try simp only [Act.put, List.setIfInBounds_toArray, List.set_cons_zero, List.set_cons_succ]
        have hR5v65 := row0 (base := w5.heap.size) bEv64 (show w5.heap.size ≤ v63.heap.size from (by have a0 := hsv0.out; have a1 := hsv53.out; have a2 := hsv63.out; have a3 := hsv64.out; omega))
        refine OrdU.wpAnyU_ready (rs := [8]) (by kernel_rfl) (by simp) ?_
        refine (OrdU.AllReadyU.cons (o := ⟨some 58, _, _, _, _, none⟩) rfl (fun K' hK => ?_) OrdU.AllReadyU.nil)
        refine step_append_lies _ (by rfl) _ _ _ (by rfl) w5.heap.size 3 ig _ 1 8 Try.underlying22 hig hz0 hz1 hz2 rfl (by omega) _ 0 [] (by rfl) hR5v65 ⟨v53.heap.size, 0, none⟩ 1 1 [.int .i64 t] (by rfl) (by rfl) (World.news_of_block (cs := #[.int .i64 t]) (t := 3) (fr := (0, 0)) bCv64) (by simp [Value.oneCell']) (by omega) (by simp only [maxLen]; omega) (by omega) (hbv64.size) (v64.heap.size) rfl ?_
        intro g8 cap8 v66 hR8v66 hgrow hat hlt
        have hbv66 := hbv64.grown hgrow (hbv64.size) (fun k e => ((hR5v65).lt k e).1)
        have hsv66 := Lib.hid (hgrow.size)
        have hg8 := Lib.hid (show g8 = v63.heap.size ∨ g8 = v64.heap.size from by rcases hat with q | q; (exact .inl (Option.some.inj q).symm); exact .inr q)
        have hl8 := Lib.hid (hR8v66.lt _ rfl).2
        have bDv66 := (bDv64).grown hgrow (fun hq => absurd (show v0.heap.size = v63.heap.size from Option.some.inj hq) (by have a0 := hsv0.out; have a1 := hsv53.out; have a2 := hsv63.out; have a3 := hsv64.out; omega))
        clear hgrow hat
        refine hK.out _ _ (fun _ => HBX.out _ (hb5.trans (hbv66.mono hb5.size))) (fun hHeld => ?_)
        replace hHeld := hHeld (by kernel_rfl)
        clear hK K'
        try simp only [Act.put, List.setIfInBounds_toArray, List.set_cons_zero, List.set_cons_succ]
        try simp only [Nat.zero_add]
        refine OrdU.wpAnyU_take (i := 11) (oi := ⟨some 61, _, _, _, _, none⟩) (v := ?_) rfl (by kernel_rfl) (by kernel_rfl) (by kernel_rfl) (by decide) (by kernel_rfl) (fun _ _ _ h => h) (Or.inl ⟨by rfl, ?_⟩) (by assumption) ?_
        rotate_left
        · (intro w hSw; (try dsimp only at hSw); go_simp; (try with_reducible rfl))
        try simp only [Act.put, List.setIfInBounds_toArray, List.set_cons_zero, List.set_cons_succ]
        refine OrdU.wpAnyU_ready (rs := [13]) (by kernel_rfl) (by simp) ?_
        refine (OrdU.AllReadyU.cons (o := ⟨none, _, _, _, _, none⟩) rfl (fun K' hK => ?_) OrdU.AllReadyU.nil)
        obtain ⟨z0, z1, z2⟩ := (bDv66).three
        have f0 := (bDv66).frozen 0
        have f1 := (bDv66).frozen 1
        have f2 := (bDv66).frozen 2
        go_simp
        have hgD := (show w5.heap.size ≤ v0.heap.size from (by have a0 := hsv0.out; have a1 := hsv53.out; have a2 := hsv63.out; have a3 := hsv64.out; have a4 := hsv66.out; have a5 := hg8.out; have a6 := hl8.out; omega))
        have bN : Blk (((v66.setCell ⟨v0.heap.size, 0, none⟩ (.int .i64 ps)).setCell ⟨v0.heap.size, 1, none⟩ (.slice (some ⟨g8, 0, none⟩) 1 cap8)).setCell ⟨v0.heap.size, 2, none⟩ (.slice B xs.length ce)) v0.heap.size 25 #[.int .i64 ps, .slice (some ⟨g8, 0, none⟩) 1 cap8, .slice B xs.length ce] := (((bDv66).set 0 (.int .i64 ps)).set 1 (.slice (some ⟨g8, 0, none⟩) 1 cap8)).set 2 (.slice B xs.length ce)
        have hbN := ((hbv66.setCell (p := ⟨v0.heap.size, 0, none⟩) hgD (.int .i64 ps)).setCell (p := ⟨v0.heap.size, 1, none⟩) hgD (.slice (some ⟨g8, 0, none⟩) 1 cap8)).setCell (p := ⟨v0.heap.size, 2, none⟩) hgD (.slice B xs.length ce)
        have hIN : IRow (((v66.setCell ⟨v0.heap.size, 0, none⟩ (.int .i64 ps)).setCell ⟨v0.heap.size, 1, none⟩ (.slice (some ⟨g8, 0, none⟩) 1 cap8)).setCell ⟨v0.heap.size, 2, none⟩ (.slice B xs.length ce)) (((v66.setCell ⟨v0.heap.size, 0, none⟩ (.int .i64 ps)).setCell ⟨v0.heap.size, 1, none⟩ (.slice (some ⟨g8, 0, none⟩) 1 cap8)).setCell ⟨v0.heap.size, 2, none⟩ (.slice B xs.length ce)).heap.size (some ⟨g8, 0, none⟩) ([] ++ [t]) := row_far3 (row_ints hR8v66) (show g8 ≠ v0.heap.size from (by have a0 := hsv0.out; have a1 := hsv53.out; have a2 := hsv63.out; have a3 := hsv64.out; have a4 := hsv66.out; have a5 := hg8.out; have a6 := hl8.out; omega)) _ _ _
        have hcp := own_cap2 hR8v66
        clear z0 z1 z2 f0 f1 f2
        refine hK.out _ _ (OrdU.no (by kernel_rfl)) (fun _ => ?_)
        clear hK K'
        try simp only [Act.put, List.setIfInBounds_toArray, List.set_cons_zero, List.set_cons_succ]
        refine OrdU.wpAnyU_done (by kernel_rfl) ?_ _
        go_wp2_with fail
        go_meet
        exact ⟨_, g8, cap8, rfl, hbN, hgD, bN, hIN, hcp⟩
  case rest =>
    obtain ⟨gq, g8, cap8, rfl, hbN, hgD, bN, hIN, hcp⟩ := hcut
    have hbF := hb5.trans (hbN.mono hb5.size)
    have bA6 := HZ.out.1.below hbN HZ.out.2.2
    have ok1 := HZ.out.2.1.at hbN
    have HQ := Lib.hid (fun W (h : Below wc.heap.size wc W) => And.intro (bN.below h bN.lt).three (HBX.out _ (hbF.trans (h.mono hbF.size))))
    have HSm := Lib.hid (fun A1 c1 A2 c2 W (h1 : (rn A1 c1 s).Ok W) (h2 : (rn A2 c2 s2).Ok W) => show Calls Try.prog 10 #[.agg #[.int .i64 s.kind, .int .i64 s.value, .int .i64 s.steps, .slice A1 s.ev.length c1], .agg #[.int .i64 s2.kind, .int .i64 s2.value, .int .i64 s2.steps, .slice A2 s2.ev.length c2]] W fun e w' => e = .returned (.bool true) ∧ Below W.heap.size W w' from by
      have := ref_MSame_any _ _ W h1 h2
      rw [show (rn A1 c1 s).same (rn A2 c2 s2) = true from by
        obtain ⟨e1, e2, e3, e4⟩ := HAL.out
        exact Rn.same_iff.2 ⟨e4.symm, e1.symm, e2.symm, by show (s.steps : Int) = s2.steps; rw [e3]⟩] at this
      exact this)
    have hIV : IRow wc wc.heap.size (some ⟨g8, 0, none⟩) ([] : List Int) := fun i x hi => hIN i x (by rw [List.getElem?_append_left (List.getElem?_eq_some_iff.1 hi).1]; exact hi)
    have HI := Lib.hid (fun W (h : Below wc.heap.size wc W) => show Calls Try.prog 16 #[.slice (some ⟨g8, 0, none⟩) 0 cap8, .slice A0 0 c0] W (fun e w' => e = .returned (.bool true) ∧ Below W.heap.size W w') from by
      have := Ints_any (some ⟨g8, 0, none⟩) cap8 ([] : List Int) A0 c0 ([] : List Int) W (hIV.at h) ((HP.out.at (hbF.trans (h.mono hbF.size))).ok q1 q2).vars (by omega)
      rw [decide_eq_true rfl] at this
      exact this)
    have HK2 := Lib.hid (K2.out g8 cap8 wc hbF hIN hcp)
    have k7 : (0 : Int) ≤ (cap8 : Int) := by omega
    have k8 : (0 : Int) ≤ (0 : Int) := by omega
    obtain ⟨⟨d0, d1, d2⟩, b0, b1, b2⟩ := HQ.out _ (Below.refl _ _)
    clear hIV hIN hcp bN K2
    go_wp2_with (first
      | (go_at_call 8; (with_reducible refine HK2.out.mono ?_); rintro e w6 ⟨hb6, A2, c2, rfl, ok2⟩
         have bB := Blk.new w6 32 #[.int .i64 s2.kind, .int .i64 s2.value, .int .i64 s2.steps, .slice A2 s2.ev.length c2]
         have hbB : Below w6.heap.size w6 (w6.alloc (.cells #[.int .i64 s2.kind, .int .i64 s2.value, .int .i64 s2.steps, .slice A2 s2.ev.length c2] 32)) := (Below.refl _ _).alloc (Nat.le_refl _) _
         have ok1 := (ok1.at hb6).at hbB
         have ok2 := ok2.at hbB
         have bA7 := bA6.below hb6 bA6.lt
         have bA7 := bA7.below hbB bA7.lt
         have hb7 := hb6.trans (hbB.mono hb6.size)
         obtain ⟨x0, x1, x2, x3⟩ := blk4 bA7
         obtain ⟨y0, y1, y2, y3⟩ := blk4 bB
         obtain ⟨⟨d0, d1, d2⟩, b0, b1, b2⟩ := HQ.out _ hb7)
      | (go_at_call 10; (with_reducible refine (HSm.out _ _ _ _ _ ok1 ok2).mono ?_); rintro e w8 ⟨rfl, hb8⟩; have hb8 := hb7.trans (hb8.mono hb7.size); obtain ⟨⟨d0, d1, d2⟩, b0, b1, b2⟩ := HQ.out _ hb8)
      | fail)
    have hb8d := hb8.trans ((Below.refl w8.heap.size w8).drew.mono hb8.size)
    go_region_held3 (fun w' => w'.cell? ⟨gq, 1, none⟩ = some (.slice (some ⟨g8, 0, none⟩) 1 cap8) ∧ w'.cell? ⟨w.heap.size, 1, none⟩ = some (.slice A0 0 c0)) (first | (with_reducible exact ⟨d1, b1⟩) | exact ⟨d1, b1⟩ | fail) (first
      | (go_at_call 16; (with_reducible refine (HI.out _ hb8d).mono ?_); rintro e w9 ⟨rfl, hb9⟩
         have hb9 := hb8d.trans (hb9.mono hb8d.size)
         obtain ⟨⟨d0, d1, d2⟩, b0, b1, b2⟩ := HQ.out _ hb9)
      | fail)
    go_wp2_with fail
    go_ret
    exact ⟨by simp, hB0.trans ((hbF.trans (hb9.mono hbF.size)).mono hB0.size)⟩

theorem directUnused_of (K : DPkg) (hw : Works) (p : Prg) (t : Int) (A : Option Addr) (c : Nat) (args : List Int) (hl : args.length ≤ c) (hA : A = none → c = 0) (f : Int) (hf : N64 f) (w : World) (hp : p.In w) (hR : IRow w w.heap.size A args) :
    Calls Try.prog 5 #[.agg #[.int .i64 p.ps, .slice p.A p.vs.length p.c, .slice p.B p.xs.length p.e], .int .i64 t, .slice A args.length c, .int .i64 f] w fun e w' => e = .returned (.bool true) ∧ Below w.heap.size w w' := by
  cases hfe : mfew p args.length f with
  | false => exact unused_idle K hw p t A c args hl hA f hf w hp hR (.inl hfe)
  | true =>
    by_cases h0 : t < 0
    · exact unused_idle K hw p t A c args hl hA f hf w hp hR (.inr (.inl h0))
    by_cases h9 : 9 < t
    · exact unused_idle K hw p t A c args hl hA f hf w hp hR (.inr (.inr (.inl h9)))
    by_cases h12 : 12 ≤ p.vs.length
    · exact unused_idle K hw p t A c args hl hA f hf w hp hR (.inr (.inr (.inr (.inl h12))))
    by_cases hE : mcheck p.ps p.vs p.xs args.length f = 0
    case neg => exact unused_idle K hw p t A c args hl hA f hf w hp hR (.inr (.inr (.inr (.inr hE))))
    obtain ⟨ps, A0, c0, vs, B, ce, xs⟩ := p
    simp only at hE h12
    cases vs with
    | nil => exact unused_none K hw ps A0 c0 B ce xs t A c args hl hA f hf w hp hR hfe h0 h9 (by omega) hE
    | cons v vs =>
      obtain ⟨ad5, hA0, -⟩ := hp.vars 0 v rfl
      simp only at hA0
      subst hA0
      exact unused_some K hw ps ad5 c0 (v :: vs) B ce xs t A c args hl hA f hf w hp hR hfe h0 h9 (by omega) hE (by simp)

end Go.Proofs.Ytodejloonfkkmaa.Dir
