/-
  The laws of layer 12, walked: what is put is got back, and what is got was put just so.
-/
import Derived.Test.YthkhonkibigdaaaDeltaLawB
namespace Go.Proofs.Ythkhonkibigdaaa.Delta
open Go.RowKit Leb Mem Wire _root_.Go.Proofs.Ythkhonkibigdaaa.Arena _root_.Go.Proofs.Ythkhonkibigdaaa.Kinds _root_.Go.Proofs.Ythkhonkibigdaaa.Path _root_.Go.Proofs.Ythkhonkibigdaaa.Code
set_option linter.unusedVariables false
attribute [local go_sem ↓] Go.wp_at_zero Go.wp_at_succ

theorem dput_len {p : List Int} {op n : Int} (h : Right p op) (hn : N64 n) : (dput p op n).length ≤ 400 := by
  have h1 := path_len h.rng
  have h2 := h.len
  have h3 := lput_len10 (n := p.length) (by omega)
  have hz := Zig.zig_range hn.1 hn.2
  have h4 := lput_len10 (n := (Zig.zig n).toNat) (by omega)
  unfold dput
  simp only [List.length_append, List.length_cons]
  omega
theorem bytes_eq {l : List UInt8} {S : ByteArray} (h : l = S.data.toList) : (⟨l.toArray⟩ : ByteArray) = S := ByteArray.ext (by rw [h])

set_option maxRecDepth 100000 in
set_option maxHeartbeats 4000000 in
theorem deltaBack_of (C : Pkg) (d : Dlt) (S : ByteArray) (hm : S.size ≤ maxLen) (w : World) (hd : d.In w) :
    Calls Try.prog 4 #[.agg #[.slice d.A d.p.length d.c, .int .i64 d.op, .int .i64 d.n], .string S] w fun e w' => e = .returned (.bool true) ∧ Below w.heap.size w w' := by
  obtain ⟨w2, hw2⟩ : ∃ w2, w.alloc (.cells #[.slice d.A d.p.length d.c, .int .i64 d.op, .int .i64 d.n] 27) = w2 := ⟨_, rfl⟩
  obtain ⟨hB, bD⟩ := one_box d w
  rw [hw2] at hB bD
  have hlD := bD.lt
  have HT := Lib.hid (fun W (h : Below w2.heap.size w2 W) => (bD.below h hlD).three)
  have HB := Lib.hid hB
  have hdI := hd.at hB
  have HDI := Lib.hid (fun W (h : Below w2.heap.size w2 W) => hdI.at h)
  have HW2 := Lib.hid hw2
  have HW := Lib.hid (fun W => Delta.works_any C W)
  have HFD := Lib.hid (fun W => Delta.few_any d W)
  have hn := hd.n64
  clear hd hw2 hB bD hdI hlD
  cases hg : fewD d with
  | false =>
    rw [hg] at HFD
    clear hg
    go_enter Try.func4, Try.ntmps4
    go_wp2_with (first
      | (go_at_call 8; rw [HW2.out]; refine (HW.out _).mono ?_; rintro e w3 ⟨rfl, hb3⟩; obtain ⟨d0, d1, d2⟩ := HT.out _ hb3)
      | (go_at_call 10; refine (HFD.out _).mono ?_; rintro e w5 ⟨rfl, hb⟩; have hb5 := hb3.trans (hb.mono hb3.size)))
    go_ret
    exact ⟨rfl, HB.out.trans (hb5.mono HB.out.size)⟩
  | true =>
    rw [hg] at HFD
    have q4 := fewD_ok hg
    clear hg
    by_cases hs : 300 < S.size
    · have j1 : (300 : Int) < (S.size : Int) := by omega
      go_enter Try.func4, Try.ntmps4
      go_wp2_with (first
        | (go_at_call 8; rw [HW2.out]; refine (HW.out _).mono ?_; rintro e w3 ⟨rfl, hb3⟩; obtain ⟨d0, d1, d2⟩ := HT.out _ hb3)
        | (go_at_call 10; refine (HFD.out _).mono ?_; rintro e w5 ⟨rfl, hb⟩; have hb5 := hb3.trans (hb.mono hb3.size)))
      go_ret
      exact ⟨rfl, HB.out.trans (hb5.mono HB.out.size)⟩
    have j1 : ¬ (300 : Int) < (S.size : Int) := by omega
    have hG := fun W => C.get S W (by omega)
    by_cases hr : Right d.p d.op
    · have hT := dfits_put hr hn.1 hn.2 (S := ⟨(dput d.p d.op d.n).toArray⟩) rfl
      have hsz : (⟨(dput d.p d.op d.n).toArray⟩ : ByteArray).size ≤ 10000 := by rw [cstr_size]; have := dput_len hr hn; omega
      have HP := Lib.hid (fun W (h : Below w2.heap.size w2 W) => C.put d W ((HDI.out W h).ok q4) hr hn)
      generalize (⟨(dput d.p d.op d.n).toArray⟩ : ByteArray) = T at *
      have HGT := Lib.hid (fun W => (C.get T W hsz).mono (fun e w' h => h.ok hT.1 hT.2.1 hT.2.2.1 hT.2.2.2))
      have HS := Lib.hid (fun A c W (h : Dlt.Ok ⟨A, c, d.p, d.op, d.n⟩ W) (h' : Below w2.heap.size w2 W) => show Calls Try.prog 16 #[.agg #[.slice A d.p.length c, .int .i64 d.op, .int .i64 d.n], .agg #[.slice d.A d.p.length d.c, .int .i64 d.op, .int .i64 d.n]] W (fun e w' => e = .returned (.bool true) ∧ Below W.heap.size W w') from (by
        have q := C.same ⟨A, c, d.p, d.op, d.n⟩ d W h ((HDI.out W h').ok q4)
        rw [show (dcmp (Dlt.p ⟨A, c, d.p, d.op, d.n⟩) (Dlt.op ⟨A, c, d.p, d.op, d.n⟩) (Dlt.n ⟨A, c, d.p, d.op, d.n⟩) d.p d.op d.n == 0) = true by rw [show dcmp (Dlt.p ⟨A, c, d.p, d.op, d.n⟩) (Dlt.op ⟨A, c, d.p, d.op, d.n⟩) (Dlt.n ⟨A, c, d.p, d.op, d.n⟩) d.p d.op d.n = 0 from dcmp_zero.2 ⟨rfl, rfl, rfl⟩]; rfl] at q
        exact q))
      clear hT hsz hr
      by_cases hf : dfits S
      · obtain ⟨f1, f2⟩ := hf
        have hN := d4_rng S
        have HQ := Lib.hid (fun A c W (h : Dlt.Ok ⟨A, c, (d2 S).1, (d3 S).2, (d4 S).2⟩ W) => show Calls Try.prog 14 #[.agg #[.slice A (d2 S).1.length c, .int .i64 (d3 S).2, .int .i64 (d4 S).2]] W (fun e w' => e = .returned (.tuple #[.string S, .int .i64 0]) ∧ Below W.heap.size W w') from (by
          have q := C.put ⟨A, c, (d2 S).1, (d3 S).2, (d4 S).2⟩ W h f1 hN
          rw [show (⟨(dput (Dlt.p ⟨A, c, (d2 S).1, (d3 S).2, (d4 S).2⟩) (Dlt.op ⟨A, c, (d2 S).1, (d3 S).2, (d4 S).2⟩) (Dlt.n ⟨A, c, (d2 S).1, (d3 S).2, (d4 S).2⟩)).toArray⟩ : ByteArray) = S from bytes_eq f2] at q
          exact q))
        have HG := Lib.hid (fun W => (hG W).mono (fun e w' h => h.ok ⟨f1, f2⟩ rfl rfl rfl))
        have e1 : (S.toList == S.toList) = true := by simp
        clear hG f1 f2 hN
        generalize (d2 S).1 = L at *
        generalize (d3 S).2 = op at *
        generalize (d4 S).2 = n at *
        go_enter Try.func4, Try.ntmps4
        go_wp2_with (first
          | (go_at_call 8; rw [HW2.out]; refine (HW.out _).mono ?_; rintro e w3 ⟨rfl, hb3⟩; obtain ⟨d0, d1, d2⟩ := HT.out _ hb3)
          | (go_at_call 10; refine (HFD.out _).mono ?_; rintro e w5 ⟨rfl, hb⟩; have hb5 := hb3.trans (hb.mono hb3.size); obtain ⟨d0, d1, d2⟩ := HT.out _ hb5)
          | (go_at_call 14; refine (HP.out _ hb5).mono ?_; rintro e w6 ⟨rfl, hb⟩; have hb6 := hb5.trans (hb.mono hb5.size); obtain ⟨d0, d1, d2⟩ := HT.out _ hb6)
          | fail)
        refine (HGT.out _).mono ?_
        rintro e w7 ⟨hb, A7, c7, rfl, ok7⟩
        have hb7 := hb6.trans (hb.mono hb6.size)
        have ba := (Below.refl w7.heap.size w7).alloc (Nat.le_refl _) (.cells #[.slice A7 d.p.length c7, .int .i64 d.op, .int .i64 d.n] 27)
        have hb8 := hb7.trans (ba.mono hb7.size)
        have ok8 := ok7.at ba
        obtain ⟨x0, x1, x2⟩ := (Blk.new w7 27 #[.slice A7 d.p.length c7, .int .i64 d.op, .int .i64 d.n]).three
        obtain ⟨d0, d1, d2⟩ := HT.out _ hb8
        go_wp2_with (go_at_call 16; refine (HS.out _ _ _ ok8 hb8).mono ?_; rintro e w9 ⟨rfl, hb⟩; have hb9 := hb8.trans (hb.mono hb8.size))
        refine (HG.out _).mono ?_
        rintro e wa ⟨hb, A, c, rfl, oka⟩
        have hba := hb9.trans (hb.mono hb9.size)
        have bb := (Below.refl wa.heap.size wa).alloc (Nat.le_refl _) (.cells #[.slice A L.length c, .int .i64 op, .int .i64 n] 27)
        have hbb := hba.trans (bb.mono hba.size)
        have okb := oka.at bb
        obtain ⟨y0, y1, y2⟩ := (Blk.new wa 27 #[.slice A L.length c, .int .i64 op, .int .i64 n]).three
        go_wp2_with (go_at_call 14; refine (HQ.out _ _ _ okb).mono ?_; rintro e wc ⟨rfl, hb⟩; have hbc := hbb.trans (hb.mono hbb.size))
        go_ret
        exact ⟨ret_true (by simp), HB.out.trans (hbc.mono HB.out.size)⟩
      · have HG := Lib.hid (fun W => (hG W).mono (fun e w' h => h.no hf))
        clear hG hf
        go_enter Try.func4, Try.ntmps4
        go_wp2_with (first
          | (go_at_call 8; rw [HW2.out]; refine (HW.out _).mono ?_; rintro e w3 ⟨rfl, hb3⟩; obtain ⟨d0, d1, d2⟩ := HT.out _ hb3)
          | (go_at_call 10; refine (HFD.out _).mono ?_; rintro e w5 ⟨rfl, hb⟩; have hb5 := hb3.trans (hb.mono hb3.size); obtain ⟨d0, d1, d2⟩ := HT.out _ hb5)
          | (go_at_call 14; refine (HP.out _ hb5).mono ?_; rintro e w6 ⟨rfl, hb⟩; have hb6 := hb5.trans (hb.mono hb5.size); obtain ⟨d0, d1, d2⟩ := HT.out _ hb6)
          | fail)
        refine (HGT.out _).mono ?_
        rintro e w7 ⟨hb, A7, c7, rfl, ok7⟩
        have hb7 := hb6.trans (hb.mono hb6.size)
        have ba := (Below.refl w7.heap.size w7).alloc (Nat.le_refl _) (.cells #[.slice A7 d.p.length c7, .int .i64 d.op, .int .i64 d.n] 27)
        have hb8 := hb7.trans (ba.mono hb7.size)
        have ok8 := ok7.at ba
        obtain ⟨x0, x1, x2⟩ := (Blk.new w7 27 #[.slice A7 d.p.length c7, .int .i64 d.op, .int .i64 d.n]).three
        obtain ⟨d0, d1, d2⟩ := HT.out _ hb8
        go_wp2_with (go_at_call 16; refine (HS.out _ _ _ ok8 hb8).mono ?_; rintro e w9 ⟨rfl, hb⟩; have hb9 := hb8.trans (hb.mono hb8.size))
        refine (HG.out _).mono ?_
        rintro e wa ⟨hb, A, c, rfl, oka⟩
        have hba := hb9.trans (hb.mono hb9.size)
        have bb := (Below.refl wa.heap.size wa).alloc (Nat.le_refl _) (.cells #[.slice A 0 c, .int .i64 0, .int .i64 0] 27)
        have hbb := hba.trans (bb.mono hba.size)
        obtain ⟨y0, y1, y2⟩ := (Blk.new wa 27 #[.slice A 0 c, .int .i64 0, .int .i64 0]).three
        go_wp2_with fail
        go_ret
        exact ⟨rfl, HB.out.trans (hbb.mono HB.out.size)⟩
    · have HP := Lib.hid (fun W (h : Below w2.heap.size w2 W) => C.putNo d W ((HDI.out W h).ok q4) hr)
      clear hr
      by_cases hf : dfits S
      · obtain ⟨f1, f2⟩ := hf
        have hN := d4_rng S
        have HQ := Lib.hid (fun A c W (h : Dlt.Ok ⟨A, c, (d2 S).1, (d3 S).2, (d4 S).2⟩ W) => show Calls Try.prog 14 #[.agg #[.slice A (d2 S).1.length c, .int .i64 (d3 S).2, .int .i64 (d4 S).2]] W (fun e w' => e = .returned (.tuple #[.string S, .int .i64 0]) ∧ Below W.heap.size W w') from (by
          have q := C.put ⟨A, c, (d2 S).1, (d3 S).2, (d4 S).2⟩ W h f1 hN
          rw [show (⟨(dput (Dlt.p ⟨A, c, (d2 S).1, (d3 S).2, (d4 S).2⟩) (Dlt.op ⟨A, c, (d2 S).1, (d3 S).2, (d4 S).2⟩) (Dlt.n ⟨A, c, (d2 S).1, (d3 S).2, (d4 S).2⟩)).toArray⟩ : ByteArray) = S from bytes_eq f2] at q
          exact q))
        have HG := Lib.hid (fun W => (hG W).mono (fun e w' h => h.ok ⟨f1, f2⟩ rfl rfl rfl))
        have e1 : (S.toList == S.toList) = true := by simp
        clear hG f1 f2 hN
        generalize (d2 S).1 = L at *
        generalize (d3 S).2 = op at *
        generalize (d4 S).2 = n at *
        go_enter Try.func4, Try.ntmps4
        go_wp2_with (first
          | (go_at_call 8; rw [HW2.out]; refine (HW.out _).mono ?_; rintro e w3 ⟨rfl, hb3⟩; obtain ⟨d0, d1, d2⟩ := HT.out _ hb3)
          | (go_at_call 10; refine (HFD.out _).mono ?_; rintro e w5 ⟨rfl, hb⟩; have hb5 := hb3.trans (hb.mono hb3.size); obtain ⟨d0, d1, d2⟩ := HT.out _ hb5)
          | (go_at_call 14; refine (HP.out _ hb5).mono ?_; rintro e w6 ⟨rfl, hb⟩; have hb6 := hb5.trans (hb.mono hb5.size); obtain ⟨d0, d1, d2⟩ := HT.out _ hb6)
          | fail)
        refine (HG.out _).mono ?_
        rintro e wa ⟨hb, A, c, rfl, oka⟩
        have hba := hb6.trans (hb.mono hb6.size)
        have bb := (Below.refl wa.heap.size wa).alloc (Nat.le_refl _) (.cells #[.slice A L.length c, .int .i64 op, .int .i64 n] 27)
        have hbb := hba.trans (bb.mono hba.size)
        have okb := oka.at bb
        obtain ⟨y0, y1, y2⟩ := (Blk.new wa 27 #[.slice A L.length c, .int .i64 op, .int .i64 n]).three
        go_wp2_with (go_at_call 14; refine (HQ.out _ _ _ okb).mono ?_; rintro e wc ⟨rfl, hb⟩; have hbc := hbb.trans (hb.mono hbb.size))
        go_ret
        exact ⟨ret_true (by simp), HB.out.trans (hbc.mono HB.out.size)⟩
      · have HG := Lib.hid (fun W => (hG W).mono (fun e w' h => h.no hf))
        clear hG hf
        go_enter Try.func4, Try.ntmps4
        go_wp2_with (first
          | (go_at_call 8; rw [HW2.out]; refine (HW.out _).mono ?_; rintro e w3 ⟨rfl, hb3⟩; obtain ⟨d0, d1, d2⟩ := HT.out _ hb3)
          | (go_at_call 10; refine (HFD.out _).mono ?_; rintro e w5 ⟨rfl, hb⟩; have hb5 := hb3.trans (hb.mono hb3.size); obtain ⟨d0, d1, d2⟩ := HT.out _ hb5)
          | (go_at_call 14; refine (HP.out _ hb5).mono ?_; rintro e w6 ⟨rfl, hb⟩; have hb6 := hb5.trans (hb.mono hb5.size); obtain ⟨d0, d1, d2⟩ := HT.out _ hb6)
          | fail)
        refine (HG.out _).mono ?_
        rintro e wa ⟨hb, A, c, rfl, oka⟩
        have hba := hb6.trans (hb.mono hb6.size)
        have bb := (Below.refl wa.heap.size wa).alloc (Nat.le_refl _) (.cells #[.slice A 0 c, .int .i64 0, .int .i64 0] 27)
        have hbb := hba.trans (bb.mono hba.size)
        obtain ⟨y0, y1, y2⟩ := (Blk.new wa 27 #[.slice A 0 c, .int .i64 0, .int .i64 0]).three
        go_wp2_with fail
        go_ret
        exact ⟨rfl, HB.out.trans (hbb.mono HB.out.size)⟩

end Go.Proofs.Ythkhonkibigdaaa.Delta
