/-
  The laws of layer 12, walked: what a program becomes, and what is wrong.
-/
import Derived.Test.YthkhonkibigdaaaDeltaArgs
import Derived.Test.YthkhonkibigdaaaDeltaWorks
import Derived.Test.YthkhonkibigdaaaDeltaRefF
import Derived.Test.YthkhonkibigdaaaKindsG
namespace Go.Proofs.Ythkhonkibigdaaa.Delta
open Go.RowKit Mem _root_.Go.Proofs.Ythkhonkibigdaaa.Arena _root_.Go.Proofs.Ythkhonkibigdaaa.Kinds _root_.Go.Proofs.Ythkhonkibigdaaa.Path
set_option linter.unusedVariables false
attribute [local go_sem ↓] Go.wp_at_zero Go.wp_at_succ

def fewD (d : Dlt) : Bool := decide (d.p.length ≤ 60)
theorem fewD_ok {d : Dlt} (h : fewD d = true) : d.p.length ≤ 1000000 := by
  unfold fewD at h
  have := of_decide_eq_true h
  omega
theorem fewB_len {p : Prg} (h : fewB p = true) : p.xs.length ≤ 100000 := by
  unfold fewB at h
  rw [Bool.and_eq_true] at h
  have := of_decide_eq_true h.1
  omega
set_option maxRecDepth 100000 in
theorem few_any (d : Dlt) (w : World) : Calls Try.prog 10 #[.agg #[.slice d.A d.p.length d.c, .int .i64 d.op, .int .i64 d.n]] w fun e w' => e = .returned (.bool (fewD d)) ∧ Below w.heap.size w w' := by
  have hB : Below w.heap.size w (w.alloc (.cells #[.slice d.A d.p.length d.c, .int .i64 d.op, .int .i64 d.n] 27)) := (Below.refl _ _).alloc (Nat.le_refl _) _
  obtain ⟨d0, d1, d2⟩ := (Blk.new w 27 #[.slice d.A d.p.length d.c, .int .i64 d.op, .int .i64 d.n]).three
  have HE := Lib.hid (show fewD d = decide ((d.p.length : Int) ≤ 60) by unfold fewD; by_cases h : d.p.length ≤ 60; rw [decide_eq_true h, decide_eq_true (by omega)]; rw [decide_eq_false h, decide_eq_false (by omega)])
  go_enter Try.func10, Try.ntmps10
  go_wp2
  go_ret
  exact ⟨by rw [HE.out]; rfl, hB⟩

/-- A program and a delta that came by value, in variables. -/
structure Two (p : Prg) (d : Dlt) (w w2 : World) : Prop where
  below : Below w.heap.size w w2
  P : Blk w2 w.heap.size 25 #[.int .i64 p.ps, .slice p.A p.vs.length p.c, .slice p.B p.xs.length p.e]
  D : Blk w2 (w.heap.size + 1) 27 #[.slice d.A d.p.length d.c, .int .i64 d.op, .int .i64 d.n]
theorem two_boxes (p : Prg) (d : Dlt) (w : World) : Two p d w ((w.alloc (.cells #[.int .i64 p.ps, .slice p.A p.vs.length p.c, .slice p.B p.xs.length p.e] 25)).alloc (.cells #[.slice d.A d.p.length d.c, .int .i64 d.op, .int .i64 d.n] 27)) := by
  refine ⟨((Below.refl _ _).alloc (Nat.le_refl _) _).alloc (by simp) _, (Blk.new w _ _).alloc _, ?_⟩
  have := Blk.new (w.alloc (.cells #[.int .i64 p.ps, .slice p.A p.vs.length p.c, .slice p.B p.xs.length p.e] 25)) 27 #[.slice d.A d.p.length d.c, .int .i64 d.op, .int .i64 d.n]
  rwa [World.size_alloc] at this
theorem Two.cells {p : Prg} {d : Dlt} {w w2 W : World} (h : Two p d w w2) (hb : Below w2.heap.size w2 W) :
    (W.cell? ⟨w.heap.size, 0, none⟩ = some (.int .i64 p.ps) ∧ W.cell? ⟨w.heap.size, 1, none⟩ = some (.slice p.A p.vs.length p.c) ∧ W.cell? ⟨w.heap.size, 2, none⟩ = some (.slice p.B p.xs.length p.e)) ∧
    (W.cell? ⟨w.heap.size + 1, 0, none⟩ = some (.slice d.A d.p.length d.c) ∧ W.cell? ⟨w.heap.size + 1, 1, none⟩ = some (.int .i64 d.op) ∧ W.cell? ⟨w.heap.size + 1, 2, none⟩ = some (.int .i64 d.n)) :=
  ⟨(h.P.below hb h.P.lt).three, (h.D.below hb h.D.lt).three⟩

set_option maxRecDepth 100000 in
set_option maxHeartbeats 2000000 in
theorem deltaApplies_of (C : Pkg) (p : Prg) (d : Dlt) (w : World) (hp : p.In w) (hd : d.In w) :
    Calls Try.prog 3 #[.agg #[.int .i64 p.ps, .slice p.A p.vs.length p.c, .slice p.B p.xs.length p.e], .agg #[.slice d.A d.p.length d.c, .int .i64 d.op, .int .i64 d.n]] w fun e w' => e = .returned (.bool true) ∧ Below w.heap.size w w' := by
  obtain ⟨w2, hw2⟩ : ∃ w2, (w.alloc (.cells #[.int .i64 p.ps, .slice p.A p.vs.length p.c, .slice p.B p.xs.length p.e] 25)).alloc (.cells #[.slice d.A d.p.length d.c, .int .i64 d.op, .int .i64 d.n] 27) = w2 := ⟨_, rfl⟩
  have h2 := two_boxes p d w
  rw [hw2] at h2
  have HT := Lib.hid (fun W (h : Below w2.heap.size w2 W) => h2.cells h)
  have HB := Lib.hid h2.below
  have hpI := hp.at h2.below
  have hdI := hd.at h2.below
  have HPI := Lib.hid (fun W (h : Below w2.heap.size w2 W) => hpI.at h)
  have HDI := Lib.hid (fun W (h : Below w2.heap.size w2 W) => hdI.at h)
  have HW2 := Lib.hid hw2
  have HW := Lib.hid (fun W => works_any C W)
  have HF := Lib.hid (fun W => show Calls Try.prog 9 #[.agg #[.int .i64 p.ps, .slice p.A p.vs.length p.c, .slice p.B p.xs.length p.e]] W (fun e w' => e = .returned (.bool (fewB p)) ∧ Below W.heap.size W w') from ref_Few_any p W)
  have HFD := Lib.hid (fun W => few_any d W)
  clear hp hd hw2 h2 hpI hdI
  cases hf : fewB p with
  | false =>
    rw [hf] at HF
    go_enter Try.func3, Try.ntmps3
    go_wp2_with (first
      | (go_at_call 8; rw [HW2.out]; refine (HW.out _).mono ?_; rintro e w3 ⟨rfl, hb3⟩; obtain ⟨⟨p0, p1, p2⟩, d0, d1, d2⟩ := HT.out _ hb3)
      | (go_at_call 9; refine (HF.out _).mono ?_; rintro e w4 ⟨rfl, hb⟩; have hb4 := hb3.trans (hb.mono hb3.size); obtain ⟨⟨p0, p1, p2⟩, d0, d1, d2⟩ := HT.out _ hb4)
      | (go_at_call 10; refine (HFD.out _).mono ?_; rintro e w5 ⟨rfl, hb⟩; have hb5 := hb4.trans (hb.mono hb4.size)))
    go_ret
    first | exact ⟨rfl, HB.out.trans (hb4.mono HB.out.size)⟩ | exact ⟨rfl, HB.out.trans (hb5.mono HB.out.size)⟩
  | true =>
    rw [hf] at HF
    obtain ⟨q1, q2⟩ := few_ok hf
    have q3 := fewB_len hf
    clear hf
    cases hg : fewD d with
    | false =>
      rw [hg] at HFD
      clear hg
      go_enter Try.func3, Try.ntmps3
      go_wp2_with (first
        | (go_at_call 8; rw [HW2.out]; refine (HW.out _).mono ?_; rintro e w3 ⟨rfl, hb3⟩; obtain ⟨⟨p0, p1, p2⟩, d0, d1, d2⟩ := HT.out _ hb3)
        | (go_at_call 9; refine (HF.out _).mono ?_; rintro e w4 ⟨rfl, hb⟩; have hb4 := hb3.trans (hb.mono hb3.size); obtain ⟨⟨p0, p1, p2⟩, d0, d1, d2⟩ := HT.out _ hb4)
        | (go_at_call 10; refine (HFD.out _).mono ?_; rintro e w5 ⟨rfl, hb⟩; have hb5 := hb4.trans (hb.mono hb4.size)))
      go_ret
      exact ⟨rfl, HB.out.trans (hb5.mono HB.out.size)⟩
    | true =>
      rw [hg] at HFD
      have q4 := fewD_ok hg
      clear hg
      have HA := Lib.hid (fun W (h : p.Ok W) (h' : d.Ok W) => C.apply p d W h h' q3)
      have HR := Lib.hid (fun W (h : p.Ok W) (h' : d.Ok W) => ref_Apply_any p d W h h' q3)
      have HS := Lib.hid (fun (P Q : Prg) W (h : P.Ok W) (h' : Q.Ok W) => Kinds.ref_Same_any P Q W h h')
      by_cases h0 : aerr p.xs d.p d.op d.n = 0
      · have HA' := Lib.hid (fun W (h : Below w2.heap.size w2 W) => (HA.out W ((HPI.out W h).ok q1 q2) ((HDI.out W h).ok q4)).mono (fun e w' q => q.ok h0))
        have HR' := Lib.hid (fun W (h : Below w2.heap.size w2 W) => (HR.out W ((HPI.out W h).ok q1 q2) ((HDI.out W h).ok q4)).mono (fun e w' q => q.ok h0))
        clear HA HR
        generalize anew p.xs d.p d.op d.n = N at *
        have HS' := Lib.hid (fun A c B ce A' c' B' ce' W (h : Prg.Ok ⟨p.ps, A, c, p.vs, B, ce, N⟩ W) (h' : Prg.Ok ⟨p.ps, A', c', p.vs, B', ce', N⟩ W) => show Calls Try.prog 13 #[.agg #[.int .i64 p.ps, .slice A p.vs.length c, .slice B N.length ce], .agg #[.int .i64 p.ps, .slice A' p.vs.length c', .slice B' N.length ce']] W (fun e w' => e = .returned (.bool true) ∧ Below W.heap.size W w') from (by
          have q := HS.out ⟨p.ps, A, c, p.vs, B, ce, N⟩ ⟨p.ps, A', c', p.vs, B', ce', N⟩ W h h'
          rw [show decide (p.vs = p.vs ∧ N = N ∧ p.ps = p.ps) = true from by simp] at q
          exact q))
        clear HS h0
        go_enter Try.func3, Try.ntmps3
        go_wp2_with (first
          | (go_at_call 8; rw [HW2.out]; refine (HW.out _).mono ?_; rintro e w3 ⟨rfl, hb3⟩; obtain ⟨⟨p0, p1, p2⟩, d0, d1, d2⟩ := HT.out _ hb3)
          | (go_at_call 9; refine (HF.out _).mono ?_; rintro e w4 ⟨rfl, hb⟩; have hb4 := hb3.trans (hb.mono hb3.size); obtain ⟨⟨p0, p1, p2⟩, d0, d1, d2⟩ := HT.out _ hb4)
          | (go_at_call 10; refine (HFD.out _).mono ?_; rintro e w5 ⟨rfl, hb⟩; have hb5 := hb4.trans (hb.mono hb4.size); obtain ⟨⟨p0, p1, p2⟩, d0, d1, d2⟩ := HT.out _ hb5)
          | fail)
        refine (HA'.out _ hb5).mono ?_
        rintro e w6 ⟨hb, A, c, B, ce, rfl, ok6⟩
        have hb6 := hb5.trans (hb.mono hb5.size)
        have ba := (Below.refl w6.heap.size w6).alloc (Nat.le_refl _) (.cells #[.int .i64 p.ps, .slice A p.vs.length c, .slice B N.length ce] 25)
        have hb7 := hb6.trans (ba.mono hb6.size)
        have ok7 := ok6.at ba
        have b7 := Blk.new w6 25 #[.int .i64 p.ps, .slice A p.vs.length c, .slice B N.length ce]
        obtain ⟨⟨p0, p1, p2⟩, d0, d1, d2⟩ := HT.out _ hb7
        go_wp2_with fail
        refine (HR'.out _ hb7).mono ?_
        rintro e w8 ⟨hb, A', c', B', ce', rfl, ok8⟩
        have hb8 := hb7.trans (hb.mono hb7.size)
        have ba8 := (Below.refl w8.heap.size w8).alloc (Nat.le_refl _) (.cells #[.int .i64 p.ps, .slice A' p.vs.length c', .slice B' N.length ce'] 25)
        have hb9 := hb8.trans (ba8.mono hb8.size)
        have ok9 := ok8.at ba8
        have ok7' := (ok7.at hb).at ba8
        obtain ⟨x0, x1, x2⟩ := ((b7.below hb b7.lt).alloc (.cells #[.int .i64 p.ps, .slice A' p.vs.length c', .slice B' N.length ce'] 25)).three
        obtain ⟨y0, y1, y2⟩ := (Blk.new w8 25 #[.int .i64 p.ps, .slice A' p.vs.length c', .slice B' N.length ce']).three
        go_wp2_with (go_at_call 13; refine (HS'.out _ _ _ _ _ _ _ _ _ ok7' ok9).mono ?_; rintro e wa ⟨rfl, hb⟩; have hba := hb9.trans (hb.mono hb9.size))
        go_ret
        exact ⟨rfl, HB.out.trans (hba.mono HB.out.size)⟩
      · have HA' := Lib.hid (fun W (h : Below w2.heap.size w2 W) => (HA.out W ((HPI.out W h).ok q1 q2) ((HDI.out W h).ok q4)).mono (fun e w' q => q.no h0))
        have HR' := Lib.hid (fun W (h : Below w2.heap.size w2 W) => (HR.out W ((HPI.out W h).ok q1 q2) ((HDI.out W h).ok q4)).mono (fun e w' q => q.no h0))
        clear HA HR
        generalize aerr p.xs d.p d.op d.n = E at *
        have HS' := Lib.hid (fun A c B ce A' c' B' ce' W (h : Prg.Ok ⟨0, A, c, [], B, ce, []⟩ W) (h' : Prg.Ok ⟨0, A', c', [], B', ce', []⟩ W) => show Calls Try.prog 13 #[.agg #[.int .i64 0, .slice A 0 c, .slice B 0 ce], .agg #[.int .i64 0, .slice A' 0 c', .slice B' 0 ce']] W (fun e w' => e = .returned (.bool true) ∧ Below W.heap.size W w') from (by
          have q := HS.out ⟨0, A, c, [], B, ce, []⟩ ⟨0, A', c', [], B', ce', []⟩ W h h'
          exact q))
        have hee : (E == E) = true := by simp
        clear HS h0
        go_enter Try.func3, Try.ntmps3
        go_wp2_with (first
          | (go_at_call 8; rw [HW2.out]; refine (HW.out _).mono ?_; rintro e w3 ⟨rfl, hb3⟩; obtain ⟨⟨p0, p1, p2⟩, d0, d1, d2⟩ := HT.out _ hb3)
          | (go_at_call 9; refine (HF.out _).mono ?_; rintro e w4 ⟨rfl, hb⟩; have hb4 := hb3.trans (hb.mono hb3.size); obtain ⟨⟨p0, p1, p2⟩, d0, d1, d2⟩ := HT.out _ hb4)
          | (go_at_call 10; refine (HFD.out _).mono ?_; rintro e w5 ⟨rfl, hb⟩; have hb5 := hb4.trans (hb.mono hb4.size); obtain ⟨⟨p0, p1, p2⟩, d0, d1, d2⟩ := HT.out _ hb5)
          | fail)
        refine (HA'.out _ hb5).mono ?_
        rintro e w6 ⟨hb, A, c, B, ce, rfl, ok6⟩
        have hb6 := hb5.trans (hb.mono hb5.size)
        have ba := (Below.refl w6.heap.size w6).alloc (Nat.le_refl _) (.cells #[.int .i64 0, .slice A 0 c, .slice B 0 ce] 25)
        have hb7 := hb6.trans (ba.mono hb6.size)
        have ok7 := ok6.at ba
        have b7 := Blk.new w6 25 #[.int .i64 0, .slice A 0 c, .slice B 0 ce]
        obtain ⟨⟨p0, p1, p2⟩, d0, d1, d2⟩ := HT.out _ hb7
        go_wp2_with fail
        refine (HR'.out _ hb7).mono ?_
        rintro e w8 ⟨hb, A', c', B', ce', rfl, ok8⟩
        have hb8 := hb7.trans (hb.mono hb7.size)
        have ba8 := (Below.refl w8.heap.size w8).alloc (Nat.le_refl _) (.cells #[.int .i64 0, .slice A' 0 c', .slice B' 0 ce'] 25)
        have hb9 := hb8.trans (ba8.mono hb8.size)
        have ok9 := ok8.at ba8
        have ok7' := (ok7.at hb).at ba8
        obtain ⟨x0, x1, x2⟩ := ((b7.below hb b7.lt).alloc (.cells #[.int .i64 0, .slice A' 0 c', .slice B' 0 ce'] 25)).three
        obtain ⟨y0, y1, y2⟩ := (Blk.new w8 25 #[.int .i64 0, .slice A' 0 c', .slice B' 0 ce']).three
        go_wp2_with (go_at_call 13; refine (HS'.out _ _ _ _ _ _ _ _ _ ok7' ok9).mono ?_; rintro e wa ⟨rfl, hb⟩; have hba := hb9.trans (hb.mono hb9.size))
        go_ret
        exact ⟨ret_true (by simp), HB.out.trans (hba.mono HB.out.size)⟩

end Go.Proofs.Ythkhonkibigdaaa.Delta
