/-
  The laws of layer 12, walked: a delta's bytes, and the delta of bytes.
-/
import Derived.Test.YthkhonkibigdaaaGreatDeltaLawA
import Derived.Test.YthkhonkibigdaaaGreatDeltaRefI
namespace Go.Proofs.YthkhonkibigdaaaGreat.Delta
open Go.RowKit Leb Mem Wire _root_.Go.Proofs.YthkhonkibigdaaaGreat.Arena _root_.Go.Proofs.YthkhonkibigdaaaGreat.Kinds _root_.Go.Proofs.YthkhonkibigdaaaGreat.Path _root_.Go.Proofs.YthkhonkibigdaaaGreat.Code
set_option linter.unusedVariables false
attribute [local go_sem ↓] Go.wp_at_zero Go.wp_at_succ

theorem one_box (d : Dlt) (w : World) : Below w.heap.size w (w.alloc (.cells #[.slice d.A d.p.length d.c, .int .i64 d.op, .int .i64 d.n] 24)) ∧ Blk (w.alloc (.cells #[.slice d.A d.p.length d.c, .int .i64 d.op, .int .i64 d.n] 24)) w.heap.size 24 #[.slice d.A d.p.length d.c, .int .i64 d.op, .int .i64 d.n] :=
  ⟨(Below.refl _ _).alloc (Nat.le_refl _) _, Blk.new _ _ _⟩
/-- Both put the same. -/
theorem put_both (C : Pkg) (d : Dlt) (hn : N64 d.n) : ∃ (T : ByteArray) (E : Int),
    (∀ W, d.Ok W → Calls Tryz.prog 7 #[.agg #[.slice d.A d.p.length d.c, .int .i64 d.op, .int .i64 d.n]] W fun e w' => e = .returned (.tuple #[.string T, .int .i64 E]) ∧ Below W.heap.size W w') ∧
    (∀ W, d.Ok W → Calls Tryz.prog 8 #[.agg #[.slice d.A d.p.length d.c, .int .i64 d.op, .int .i64 d.n]] W fun e w' => e = .returned (.tuple #[.string T, .int .i64 E]) ∧ Below W.heap.size W w') := by
  by_cases hr : Right d.p d.op
  · exact ⟨⟨(dput d.p d.op d.n).toArray⟩, 0, fun W h => C.put d W h hr hn, fun W h => ref_DPut_good d W h hr hn⟩
  · exact ⟨⟨#[]⟩, 17, fun W h => C.putNo d W h hr, fun W h => ref_DPut_bad d W h hr⟩
/-- What Get told. -/
def Got (L : List Int) (op n E : Int) (w : World) (e : Ending) (w' : World) : Prop :=
  Below w.heap.size w w' ∧ ∃ A c, e = .returned (.tuple #[.agg #[.slice A L.length c, .int .i64 op, .int .i64 n], .int .i64 E]) ∧ Dlt.Ok ⟨A, c, L, op, n⟩ w'
theorem get_both (C : Pkg) (S : ByteArray) (hS : S.size ≤ 10000) : ∃ (L : List Int) (op n E : Int),
    (∀ W, Calls Tryz.prog 9 #[.string S] W (Got L op n E W)) ∧ (∀ W, Calls Tryz.prog 10 #[.string S] W (Got L op n E W)) := by
  by_cases hf : dfits S
  · exact ⟨(d2 S).1, (d3 S).2, (d4 S).2, 0, fun W => (C.get S W hS).mono (fun e w' h => h.ok hf rfl rfl rfl), fun W => (ref_DGet_any S W hS).mono (fun e w' h => h.ok hf rfl rfl rfl)⟩
  · exact ⟨[], 0, 0, 12, fun W => (C.get S W hS).mono (fun e w' h => h.no hf), fun W => (ref_DGet_any S W hS).mono (fun e w' h => h.no hf)⟩

set_option maxRecDepth 100000 in
set_option maxHeartbeats 2000000 in
theorem deltaBytes_of (C : Pkg) (d : Dlt) (S : ByteArray) (hm : S.size ≤ maxLen) (w : World) (hd : d.In w) :
    Calls Tryz.prog 3 #[.agg #[.slice d.A d.p.length d.c, .int .i64 d.op, .int .i64 d.n], .string S] w fun e w' => e = .returned (.bool true) ∧ Below w.heap.size w w' := by
  obtain ⟨w2, hw2⟩ : ∃ w2, w.alloc (.cells #[.slice d.A d.p.length d.c, .int .i64 d.op, .int .i64 d.n] 24) = w2 := ⟨_, rfl⟩
  obtain ⟨hB, bD⟩ := one_box d w
  rw [hw2] at hB bD
  have hlD := bD.lt
  have HT := Lib.hid (fun W (h : Below w2.heap.size w2 W) => (bD.below h hlD).three)
  have HB := Lib.hid hB
  have hdI := hd.at hB
  have HDI := Lib.hid (fun W (h : Below w2.heap.size w2 W) => hdI.at h)
  have HW2 := Lib.hid hw2
  have HW := Lib.hid (fun W => Delta.works_any C W)
  have HFD := Lib.hid (fun W => Delta.few_any d W)
  have hn := hd.n64
  clear hd hw2 hB bD hdI hlD
  cases hg : fewD d with
  | false =>
    rw [hg] at HFD
    clear hg
    go_enter Tryz.func3, Tryz.ntmps3
    go_wp2_with (first
      | (go_at_call 5; rw [HW2.out]; refine (HW.out _).mono ?_; rintro e w3 ⟨rfl, hb3⟩; obtain ⟨d0, d1, d2⟩ := HT.out _ hb3)
      | (go_at_call 6; refine (HFD.out _).mono ?_; rintro e w5 ⟨rfl, hb⟩; have hb5 := hb3.trans (hb.mono hb3.size)))
    go_ret
    exact ⟨rfl, HB.out.trans (hb5.mono HB.out.size)⟩
  | true =>
    rw [hg] at HFD
    have q4 := fewD_ok hg
    clear hg
    by_cases hs : 300 < S.size
    · have j1 : (300 : Int) < (S.size : Int) := by omega
      go_enter Tryz.func3, Tryz.ntmps3
      go_wp2_with (first
        | (go_at_call 5; rw [HW2.out]; refine (HW.out _).mono ?_; rintro e w3 ⟨rfl, hb3⟩; obtain ⟨d0, d1, d2⟩ := HT.out _ hb3)
        | (go_at_call 6; refine (HFD.out _).mono ?_; rintro e w5 ⟨rfl, hb⟩; have hb5 := hb3.trans (hb.mono hb3.size)))
      go_ret
      exact ⟨rfl, HB.out.trans (hb5.mono HB.out.size)⟩
    · have j1 : ¬ (300 : Int) < (S.size : Int) := by omega
      obtain ⟨T, E, hp1, hp2⟩ := put_both C d hn
      obtain ⟨L, op, n, E', hg1, hg2⟩ := get_both C S (by omega)
      have HP1 := Lib.hid (fun W (h : Below w2.heap.size w2 W) => hp1 W ((HDI.out W h).ok q4))
      have HP2 := Lib.hid (fun W (h : Below w2.heap.size w2 W) => hp2 W ((HDI.out W h).ok q4))
      have HG1 := Lib.hid hg1
      have HG2 := Lib.hid hg2
      have HC := Lib.hid (fun A c A' c' W (h : Dlt.Ok ⟨A, c, L, op, n⟩ W) (h' : Dlt.Ok ⟨A', c', L, op, n⟩ W) => show Calls Tryz.prog 11 #[.agg #[.slice A L.length c, .int .i64 op, .int .i64 n], .agg #[.slice A' L.length c', .int .i64 op, .int .i64 n]] W (fun e w' => e = .returned (.int .i64 0) ∧ Below W.heap.size W w') from (by
        have q := ref_DCompare_any ⟨A, c, L, op, n⟩ ⟨A', c', L, op, n⟩ W h h'
        rw [show dcmp (Dlt.p ⟨A, c, L, op, n⟩) (Dlt.op ⟨A, c, L, op, n⟩) (Dlt.n ⟨A, c, L, op, n⟩) (Dlt.p ⟨A', c', L, op, n⟩) (Dlt.op ⟨A', c', L, op, n⟩) (Dlt.n ⟨A', c', L, op, n⟩) = 0 from dcmp_zero.2 ⟨rfl, rfl, rfl⟩] at q
        exact q))
      have e1 : (T.toList == T.toList) = true := by simp
      have e2 : (E == E) = true := by simp
      have e3 : (E' == E') = true := by simp
      clear hp1 hp2 hg1 hg2 hs
      go_enter Tryz.func3, Tryz.ntmps3
      go_wp2_with (first
        | (go_at_call 5; rw [HW2.out]; refine (HW.out _).mono ?_; rintro e w3 ⟨rfl, hb3⟩; obtain ⟨d0, d1, d2⟩ := HT.out _ hb3)
        | (go_at_call 6; refine (HFD.out _).mono ?_; rintro e w5 ⟨rfl, hb⟩; have hb5 := hb3.trans (hb.mono hb3.size); obtain ⟨d0, d1, d2⟩ := HT.out _ hb5)
        | (go_at_call 7; refine (HP1.out _ hb5).mono ?_; rintro e w6 ⟨rfl, hb⟩; have hb6 := hb5.trans (hb.mono hb5.size); obtain ⟨d0, d1, d2⟩ := HT.out _ hb6)
        | (go_at_call 8; refine (HP2.out _ hb6).mono ?_; rintro e w7 ⟨rfl, hb⟩; have hb7 := hb6.trans (hb.mono hb6.size))
        | fail)
      refine (HG1.out _).mono ?_
      rintro e w8 ⟨hb, A, c, rfl, ok8⟩
      have hb8 := hb7.trans (hb.mono hb7.size)
      have ba := (Below.refl w8.heap.size w8).alloc (Nat.le_refl _) (.cells #[.slice A L.length c, .int .i64 op, .int .i64 n] 24)
      have hb9 := hb8.trans (ba.mono hb8.size)
      have ok9 := ok8.at ba
      have b9 := Blk.new w8 24 #[.slice A L.length c, .int .i64 op, .int .i64 n]
      go_wp2_with fail
      refine (HG2.out _).mono ?_
      rintro e wa ⟨hb, A', c', rfl, oka⟩
      have hba := hb9.trans (hb.mono hb9.size)
      have bb := (Below.refl wa.heap.size wa).alloc (Nat.le_refl _) (.cells #[.slice A' L.length c', .int .i64 op, .int .i64 n] 24)
      have hbb := hba.trans (bb.mono hba.size)
      have okb := oka.at bb
      have ok9' := (ok9.at hb).at bb
      obtain ⟨x0, x1, x2⟩ := ((b9.below hb b9.lt).alloc (.cells #[.slice A' L.length c', .int .i64 op, .int .i64 n] 24)).three
      obtain ⟨y0, y1, y2⟩ := (Blk.new wa 24 #[.slice A' L.length c', .int .i64 op, .int .i64 n]).three
      go_wp2_with (go_at_call 11; refine (HC.out _ _ _ _ _ ok9' okb).mono ?_; rintro e wc ⟨rfl, hb⟩; have hbc := hbb.trans (hb.mono hbb.size))
      go_ret
      exact ⟨ret_true (by simp), HB.out.trans (hbc.mono HB.out.size)⟩

end Go.Proofs.YthkhonkibigdaaaGreat.Delta
