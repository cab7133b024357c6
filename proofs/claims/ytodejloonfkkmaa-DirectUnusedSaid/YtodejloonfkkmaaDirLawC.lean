/-
  The laws of layer 17, walked: a variable that is not used, where nothing is asked. (Written by tools/gen_dirunused.py.)
-/
import Derived.Test.YtodejloonfkkmaaDirLawA
import Derived.Test.YtodejloonfkkmaaDirMore
import Derived.Deep.RegionHeld3
import Derived.Deep.DrawnRows
import Derived.Deep.AppendLies
set_option linter.unusedVariables false
set_option linter.unusedSimpArgs false
namespace Go.Proofs.Ytodejloonfkkmaa.Dir
open Go.RowKit Mem _root_.Go.Proofs.Ytodejloonfkkmaa.Arena _root_.Go.Proofs.Ytodejloonfkkmaa.Kinds _root_.Go.Proofs.Ytodejloonfkkmaa.Path _root_.Go.Proofs.Ytodejloonfkkmaa.Cat _root_.Go.Proofs.Ytodejloonfkkmaa.Suite _root_.Go.Proofs.Ytodejloonfkkmaa.Delta _root_.Go.Proofs.Ytodejloonfkkmaa.Mach
attribute [local go_sem ↓] Go.wp_at_zero Go.wp_at_succ

set_option maxRecDepth 100000 in
set_option maxHeartbeats 8000000 in
theorem unused_idle (K : DPkg) (hw : Works) (p : Prg) (t : Int) (A : Option Addr) (c : Nat) (args : List Int) (hl : args.length ≤ c) (hA : A = none → c = 0) (f : Int) (hf : N64 f) (w : World) (hp : p.In w) (hR : IRow w w.heap.size A args) (hidle : mfew p args.length f = false ∨ t < 0 ∨ 9 < t ∨ 12 ≤ p.vs.length ∨ mcheck p.ps p.vs p.xs args.length f ≠ 0) :
    Calls Try.prog 5 #[.agg #[.int .i64 p.ps, .slice p.A p.vs.length p.c, .slice p.B p.xs.length p.e], .int .i64 t, .slice A args.length c, .int .i64 f] w fun e w' => e = .returned (.bool true) ∧ Below w.heap.size w w' := by
  have hB0 : Below w.heap.size w (w.alloc (.cells #[.int .i64 p.ps, .slice p.A p.vs.length p.c, .slice p.B p.xs.length p.e] 25)) := (Below.refl _ _).alloc (Nat.le_refl _) _
  have bX := Blk.new w 25 #[.int .i64 p.ps, .slice p.A p.vs.length p.c, .slice p.B p.xs.length p.e]
  have hi := hp.at hB0
  have hr := hR.at hB0
  obtain ⟨wQ, hwQ⟩ : ∃ wQ, w.alloc (.cells #[.int .i64 p.ps, .slice p.A p.vs.length p.c, .slice p.B p.xs.length p.e] 25) = wQ := ⟨_, rfl⟩
  rw [hwQ] at hB0 bX hi hr
  have hgl := bX.lt
  have HBX := Lib.hid (fun W (h : Below wQ.heap.size wQ W) => (bX.below h hgl).three)
  have HP := Lib.hid hi
  have HR := Lib.hid (fun W (h : Below wQ.heap.size wQ W) => hr.at h)
  have HWQ := Lib.hid hwQ
  have HW := Lib.hid (fun W => hw W)
  have HF := Lib.hid (fun W => few17_any p A c args.length f W)
  clear hp hR bX hwQ hi hr
  have HIDE := Lib.hid hidle
  clear hidle
  cases hfe : mfew p args.length f with
  | false =>
    rw [hfe] at HF
    go_enter Try.func5, Try.ntmps5
    go_wp2_with (first
      | (go_at_call 6; rw [HWQ.out]; (with_reducible refine (HW.out _).mono ?_); rintro e w2 ⟨rfl, hb2⟩; obtain ⟨b0, b1, b2⟩ := HBX.out _ hb2)
      | (go_at_call 7; (with_reducible refine (HF.out _).mono ?_); rintro e w3 ⟨rfl, hb⟩; have hb3 := hb2.trans (hb.mono hb2.size); obtain ⟨b0, b1, b2⟩ := HBX.out _ hb3)
      | fail)
    go_ret
    exact ⟨rfl, hB0.trans (hb3.mono hB0.size)⟩
  | true =>
  rw [hfe] at HF
  obtain ⟨q1, q2, q3, q4⟩ := mfew_ok hfe
  have HFE := Lib.hid hfe
  clear hfe
  by_cases h0 : t < 0
  · go_enter Try.func5, Try.ntmps5
    go_wp2_with (first
      | (go_at_call 6; rw [HWQ.out]; (with_reducible refine (HW.out _).mono ?_); rintro e w2 ⟨rfl, hb2⟩; obtain ⟨b0, b1, b2⟩ := HBX.out _ hb2)
      | (go_at_call 7; (with_reducible refine (HF.out _).mono ?_); rintro e w3 ⟨rfl, hb⟩; have hb3 := hb2.trans (hb.mono hb2.size); obtain ⟨b0, b1, b2⟩ := HBX.out _ hb3)
      | fail)
    go_ret
    exact ⟨rfl, hB0.trans (hb3.mono hB0.size)⟩
  by_cases h9 : 9 < t
  · go_enter Try.func5, Try.ntmps5
    go_wp2_with (first
      | (go_at_call 6; rw [HWQ.out]; (with_reducible refine (HW.out _).mono ?_); rintro e w2 ⟨rfl, hb2⟩; obtain ⟨b0, b1, b2⟩ := HBX.out _ hb2)
      | (go_at_call 7; (with_reducible refine (HF.out _).mono ?_); rintro e w3 ⟨rfl, hb⟩; have hb3 := hb2.trans (hb.mono hb2.size); obtain ⟨b0, b1, b2⟩ := HBX.out _ hb3)
      | fail)
    go_ret
    exact ⟨rfl, hB0.trans (hb3.mono hB0.size)⟩
  by_cases h12 : 12 ≤ p.vs.length
  · have j1 : (12 : Int) ≤ (p.vs.length : Int) := by omega
    go_enter Try.func5, Try.ntmps5
    go_wp2_with (first
      | (go_at_call 6; rw [HWQ.out]; (with_reducible refine (HW.out _).mono ?_); rintro e w2 ⟨rfl, hb2⟩; obtain ⟨b0, b1, b2⟩ := HBX.out _ hb2)
      | (go_at_call 7; (with_reducible refine (HF.out _).mono ?_); rintro e w3 ⟨rfl, hb⟩; have hb3 := hb2.trans (hb.mono hb2.size); obtain ⟨b0, b1, b2⟩ := HBX.out _ hb3)
      | fail)
    go_ret
    exact ⟨rfl, hB0.trans (hb3.mono hB0.size)⟩
  have j1 : ¬ (12 : Int) ≤ (p.vs.length : Int) := by omega
  have hE : mcheck p.ps p.vs p.xs args.length f ≠ 0 := by
    rcases HIDE.out with z | z | z | z | z
    · rw [HFE.out] at z; cases z
    · exact absurd z h0
    · exact absurd z h9
    · exact absurd z h12
    · exact z
  have KD := Lib.hid (fun W (hb : Below wQ.heap.size wQ W) => (K.run p A c args f W ((HP.out.at hb).ok (by omega) (by omega)) (HR.out W hb) hl hA (by omega) hf).mono (RunEnds.open p args f W))
  generalize rrun p.ps p.vs p.xs args f = s at *
  generalize mcheck p.ps p.vs p.xs args.length f = E at *
  have e0 : (E == 0) = false := by simpa using hE
  have e1 : (E != 0) = true := by simpa using hE
  clear HIDE HFE hE
  go_enter Try.func5, Try.ntmps5
  go_wp2_with (first
    | (go_at_call 6; rw [HWQ.out]; (with_reducible refine (HW.out _).mono ?_); rintro e w2 ⟨rfl, hb2⟩; obtain ⟨b0, b1, b2⟩ := HBX.out _ hb2)
    | (go_at_call 7; (with_reducible refine (HF.out _).mono ?_); rintro e w3 ⟨rfl, hb⟩; have hb3 := hb2.trans (hb.mono hb2.size); obtain ⟨b0, b1, b2⟩ := HBX.out _ hb3)
    | (go_at_call 8; (with_reducible refine (KD.out _ hb3).mono ?_); rintro e w4 ⟨hb4, A1, c1, rfl, ok1⟩
       have bA := Blk.new w4 32 #[.int .i64 s.kind, .int .i64 s.value, .int .i64 s.steps, .slice A1 s.ev.length c1]
       have hbA : Below w4.heap.size w4 (w4.alloc (.cells #[.int .i64 s.kind, .int .i64 s.value, .int .i64 s.steps, .slice A1 s.ev.length c1] 32)) := (Below.refl _ _).alloc (Nat.le_refl _) _
       have ok1 := ok1.at hbA
       have hb5 := (hb3.trans (hb4.mono hb3.size)).trans (hbA.mono (hb3.trans (hb4.mono hb3.size)).size)
       obtain ⟨b0, b1, b2⟩ := HBX.out _ hb5)
    | fail)
  go_ret
  exact ⟨rfl, hB0.trans (hb5.mono hB0.size)⟩

end Go.Proofs.Ytodejloonfkkmaa.Dir
