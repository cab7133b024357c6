/-
  The laws of layer 14, walked: the mutants are just those that the catalogue lets, in order, each once. (Written by tools/gen_sitesjust.py.)
-/
import Derived.Test.YtofhgaioidfdmaaGreatSitesLawB
import Derived.Test.YtofhgaioidfdmaaGreatCatN
import Derived.Test.YtofhgaioidfdmaaGreatPathH
set_option linter.unusedVariables false
namespace Go.Proofs.YtofhgaioidfdmaaGreat.Sites
open Go.RowKit Mem _root_.Go.Proofs.YtofhgaioidfdmaaGreat.Arena _root_.Go.Proofs.YtofhgaioidfdmaaGreat.Delta _root_.Go.Proofs.YtofhgaioidfdmaaGreat.Path _root_.Go.Proofs.YtofhgaioidfdmaaGreat.Cat _root_.Go.Proofs.YtofhgaioidfdmaaGreat.Kinds
attribute [local go_sem ↓] Go.wp_at_zero Go.wp_at_succ

theorem find_yes {l : List Nd} (hw : Whole l) {q : List Int} {op n k : Int} (h : FindOk (msites l) (q, op, n) k) (h0 : 0 ≤ pfind l q) (h1 : isv l (pfind l q) op n = true) : ∃ i : Nat, k = i ∧ (msites l)[i]? = some (q, op, n) := by
  have hk := (h.iff (sites_rise hw)).2 ((sites_mem hw).2 ⟨h0, h1⟩)
  obtain ⟨i, rfl⟩ := Int.eq_ofNat_of_zero_le hk
  exact ⟨i, rfl, h.2.2.1 i rfl⟩
theorem find_no {l : List Nd} (hw : Whole l) {q : List Int} {op n k : Int} (h : FindOk (msites l) (q, op, n) k) (h1 : ¬ (0 ≤ pfind l q ∧ isv l (pfind l q) op n = true)) : k < 0 := by
  by_cases hk : 0 ≤ k
  · exact absurd ((sites_mem hw).1 ((h.iff (sites_rise hw)).1 hk)) h1
  · omega

set_option maxRecDepth 100000 in
set_option maxHeartbeats 8000000 in
theorem sitesJust_of (C : SPkg) (K : Works) (p : Prg) (d : Dlt) (w : World) (hp : p.In w) (hd : d.In w) :
    Calls Tryz.prog 5 #[.agg #[.int .i64 p.ps, .slice p.A p.vs.length p.c, .slice p.B p.xs.length p.e], .agg #[.slice d.A d.p.length d.c, .int .i64 d.op, .int .i64 d.n]] w fun e w' => e = .returned (.bool true) ∧ Below w.heap.size w w' := by
  have hB1 : Below w.heap.size w (w.alloc (.cells #[.int .i64 p.ps, .slice p.A p.vs.length p.c, .slice p.B p.xs.length p.e] 25)) := (Below.refl _ _).alloc (Nat.le_refl _) _
  have hB0 := hB1.alloc hB1.size (.cells #[.slice d.A d.p.length d.c, .int .i64 d.op, .int .i64 d.n] 34)
  have bX := (Blk.new w 25 #[.int .i64 p.ps, .slice p.A p.vs.length p.c, .slice p.B p.xs.length p.e]).alloc (.cells #[.slice d.A d.p.length d.c, .int .i64 d.op, .int .i64 d.n] 34)
  have bD := Blk.new (w.alloc (.cells #[.int .i64 p.ps, .slice p.A p.vs.length p.c, .slice p.B p.xs.length p.e] 25)) 34 #[.slice d.A d.p.length d.c, .int .i64 d.op, .int .i64 d.n]
  rw [World.size_alloc] at bD
  have hi := hp.at hB0
  have hj := hd.at hB0
  obtain ⟨wQ, hwQ⟩ : ∃ wQ, (w.alloc (.cells #[.int .i64 p.ps, .slice p.A p.vs.length p.c, .slice p.B p.xs.length p.e] 25)).alloc (.cells #[.slice d.A d.p.length d.c, .int .i64 d.op, .int .i64 d.n] 34) = wQ := ⟨_, rfl⟩
  rw [hwQ] at hB0 bX bD hi hj
  have hgl := bX.lt
  have hgd := bD.lt
  have HBX := Lib.hid (fun W (h : Below wQ.heap.size wQ W) => And.intro (bX.below h hgl).three (bD.below h hgd).three)
  have HP := Lib.hid hi
  have HD := Lib.hid hj
  have HWQ := Lib.hid hwQ
  have HW := Lib.hid K
  have HF := Lib.hid (fun W => ref_Few_any p W)
  have HFP := Lib.hid (fun W (h : p.In W) => few_prg (p := p) (w := W) h)
  have HFW := Lib.hid (fun W (h : Below wQ.heap.size wQ W) => few_one (d := d) (Blk.new W 34 #[.slice d.A d.p.length d.c, .int .i64 d.op, .int .i64 d.n]) (hj.at (h.alloc h.size _)))
  have HA := Lib.hid (fun W h => C.all p W h)
  have HCK := Lib.hid (fun W (h : p.Ok W) => Kinds.PCheck_any p W h)
  have HPW := Lib.hid (fun h : pcheck p.ps p.vs p.xs = 0 => (pcheck_whole h).1)
  clear hp hd bX bD hwQ hi hj hB1
  generalize pcheck p.ps p.vs p.xs = e9 at *
  generalize hf : (decide (p.xs.length ≤ 60) && decide (p.vs.length ≤ 20)) = f at *
  cases f with
  | false =>
    go_enter Tryz.func5, Tryz.ntmps5
    go_wp2_with (first
      | (go_at_call 10; rw [HWQ.out]; refine (HW.out _).mono ?_; rintro e w2 ⟨rfl, hb2⟩; obtain ⟨⟨b0, b1, b2⟩, d0, d1, d2⟩ := HBX.out _ hb2)
      | (go_at_call 11; refine (HF.out _).mono ?_; rintro e w3 ⟨rfl, hb⟩; have hb3 := hb2.trans (hb.mono hb2.size); obtain ⟨⟨b0, b1, b2⟩, d0, d1, d2⟩ := HBX.out _ hb3)
      | fail)
    go_ret
    exact ⟨rfl, hB0.trans (hb3.mono hB0.size)⟩
  | true =>
  have hl60 := (HFP.out _ HP.out rfl).2
  have HOK := Lib.hid (fun W (h : Below wQ.heap.size wQ W) => (HFP.out _ (HP.out.at h) rfl).1)
  by_cases h60 : d.p.length ≤ 60
  case neg =>
    rw [decide_eq_false h60] at HFW
    go_enter Tryz.func5, Tryz.ntmps5
    go_wp2_with (first
      | (go_at_call 10; rw [HWQ.out]; refine (HW.out _).mono ?_; rintro e w2 ⟨rfl, hb2⟩; obtain ⟨⟨b0, b1, b2⟩, d0, d1, d2⟩ := HBX.out _ hb2)
      | (go_at_call 11; refine (HF.out _).mono ?_; rintro e w3 ⟨rfl, hb⟩; have hb3 := hb2.trans (hb.mono hb2.size); obtain ⟨⟨b0, b1, b2⟩, d0, d1, d2⟩ := HBX.out _ hb3)
      | (go_at_call 15; refine (HFW.out _ hb3).mono ?_; rintro e w4 ⟨rfl, rfl⟩; have hb4 := hb3.alloc hb3.size (.cells #[.slice d.A d.p.length d.c, .int .i64 d.op, .int .i64 d.n] 34); obtain ⟨⟨b0, b1, b2⟩, d0, d1, d2⟩ := HBX.out _ hb4)
      | fail)
    go_ret
    exact ⟨rfl, hB0.trans (hb4.mono hB0.size)⟩
  rw [decide_eq_true h60] at HFW
  have HDK := Lib.hid (fun W (h : Below wQ.heap.size wQ W) => (HD.out.at h).ok (by omega))
  by_cases h9 : e9 = 0
  case neg =>
    have e0 : (e9 == 0) = false := by simpa using h9
    clear hf h9
    go_enter Tryz.func5, Tryz.ntmps5
    go_wp2_with (first
      | (go_at_call 10; rw [HWQ.out]; refine (HW.out _).mono ?_; rintro e w2 ⟨rfl, hb2⟩; obtain ⟨⟨b0, b1, b2⟩, d0, d1, d2⟩ := HBX.out _ hb2)
      | (go_at_call 11; refine (HF.out _).mono ?_; rintro e w3 ⟨rfl, hb⟩; have hb3 := hb2.trans (hb.mono hb2.size); obtain ⟨⟨b0, b1, b2⟩, d0, d1, d2⟩ := HBX.out _ hb3)
      | (go_at_call 15; refine (HFW.out _ hb3).mono ?_; rintro e w4 ⟨rfl, rfl⟩; have hb4 := hb3.alloc hb3.size (.cells #[.slice d.A d.p.length d.c, .int .i64 d.op, .int .i64 d.n] 34); obtain ⟨⟨b0, b1, b2⟩, d0, d1, d2⟩ := HBX.out _ hb4)
      | (go_at_call 19; refine (HCK.out _ (HOK.out _ hb4)).mono ?_; rintro e w5 ⟨rfl, hb⟩; have hb5 := hb4.trans (hb.mono hb4.size); obtain ⟨⟨b0, b1, b2⟩, d0, d1, d2⟩ := HBX.out _ hb5)
      | fail)
    go_ret
    exact ⟨rfl, hB0.trans (hb5.mono hB0.size)⟩
  subst h9
  have hw := HPW.out rfl
  have HA2 := Lib.hid (fun W h => (HA.out W h).mono (fun e w' q => q.ok rfl))
  have HPF := Lib.hid (fun W (h : Below wQ.heap.size wQ W) => Path.Find_any p.B p.e p.xs d.A d.c d.p W (HOK.out W h).body (by omega) (HDK.out W h).path (by omega))
  have HIS := Lib.hid (fun W (h : Below wQ.heap.size wQ W) => Cat.Is_any p.B p.e p.xs (pfind p.xs d.p) d.op d.n W (HOK.out W h).body (by omega))
  have hml := sites_len p.xs
  have HRI := Lib.hid (fun A c W (h : MRow W A (msites p.xs)) => (Sites.ref_Rises_any A c (msites p.xs) W h (by omega)).mono (fun e w' q => show e = .returned (.bool true) ∧ Below W.heap.size W w' from by
    obtain ⟨⟨b, h1, h2⟩, h3⟩ := q
    rw [h1, h2.2 (sites_rise hw)]
    exact ⟨rfl, h3⟩))
  have HFD := Lib.hid (fun A c W (h : MRow W A (msites p.xs)) hc hA (hb : Below wQ.heap.size wQ W) => C.find A c (msites p.xs) d W h hc hA (by omega) (HDK.out W hb))
  have HSM := Lib.hid (fun (P : Option Addr) (cp : Nat) (m : Mt) W h (hb : Below wQ.heap.size wQ W) => same_mt (P := P) (c := cp) (m := m) (d := d) W h (HDK.out W hb))
  have HYES := Lib.hid (fun k h => find_yes (k := k) hw (q := d.p) (op := d.op) (n := d.n) h)
  have HNO := Lib.hid (fun k h => find_no (k := k) hw (q := d.p) (op := d.op) (n := d.n) h)
  clear HA HPW hf h60
  generalize isv p.xs (pfind p.xs d.p) d.op d.n = b at *
  generalize pfind p.xs d.p = pf at *
  generalize msites p.xs = M at *
  by_cases h0 : 0 ≤ pf
  case neg =>
    go_enter Tryz.func5, Tryz.ntmps5
    go_wp2_with (first
      | (go_at_call 10; rw [HWQ.out]; refine (HW.out _).mono ?_; rintro e w2 ⟨rfl, hb2⟩; obtain ⟨⟨b0, b1, b2⟩, d0, d1, d2⟩ := HBX.out _ hb2)
      | (go_at_call 11; refine (HF.out _).mono ?_; rintro e w3 ⟨rfl, hb⟩; have hb3 := hb2.trans (hb.mono hb2.size); obtain ⟨⟨b0, b1, b2⟩, d0, d1, d2⟩ := HBX.out _ hb3)
      | (go_at_call 15; refine (HFW.out _ hb3).mono ?_; rintro e w4 ⟨rfl, rfl⟩; have hb4 := hb3.alloc hb3.size (.cells #[.slice d.A d.p.length d.c, .int .i64 d.op, .int .i64 d.n] 34); obtain ⟨⟨b0, b1, b2⟩, d0, d1, d2⟩ := HBX.out _ hb4)
      | (go_at_call 19; refine (HCK.out _ (HOK.out _ hb4)).mono ?_; rintro e w5 ⟨rfl, hb⟩; have hb5 := hb4.trans (hb.mono hb4.size); obtain ⟨⟨b0, b1, b2⟩, d0, d1, d2⟩ := HBX.out _ hb5)
      | (go_at_call 12; refine (HA2.out _ (HOK.out _ hb5)).mono ?_; rintro e w6 ⟨hb, A6, c6, rfl, hc6, hA6, hm6⟩; have hb6 := hb5.trans (hb.mono hb5.size); obtain ⟨⟨b0, b1, b2⟩, d0, d1, d2⟩ := HBX.out _ hb6)
      | (go_at_call 20; refine (HPF.out _ hb6).mono ?_; rintro e w7 ⟨rfl, hb⟩; have hb7 := hb6.trans (hb.mono hb6.size); have hm6 := hm6.at hb; obtain ⟨⟨b0, b1, b2⟩, d0, d1, d2⟩ := HBX.out _ hb7)
      | (go_at_call 22; refine (HRI.out _ _ _ hm6).mono ?_; rintro e w9 ⟨rfl, hb⟩; have hb9 := hb7.trans (hb.mono hb7.size); have hm6 := hm6.at hb; obtain ⟨⟨b0, b1, b2⟩, d0, d1, d2⟩ := HBX.out _ hb9)
      | fail)
    refine (HFD.out _ _ _ hm6 hc6 hA6 hb9).mono ?_
    rintro e w10 ⟨hb, k, rfl, hk⟩
    have hb10 := hb9.trans (hb.mono hb9.size)
    have hkn := HNO.out k hk (fun z => absurd z.1 (by omega))
    obtain ⟨hk1, hk2, -, -⟩ := hk
    have i1 : ¬ (M.length : Int) ≤ k := by omega
    have y1 : decide ((M.length : Int) ≤ k) = false := decide_eq_false i1
    have i2 : ¬ (0 : Int) ≤ k := by omega
    have y2 : decide ((0 : Int) ≤ k) = false := decide_eq_false i2
    have y3 : decide (k < 0) = true := decide_eq_true hkn
    clear hk1 hk2 hb
    go_wp2_with fail
    go_quiet (fail)
    go_wp2_with fail
    go_ret
    exact ⟨rfl, hB0.trans ((belowN hb10 _).mono hB0.size)⟩
  cases b
  case false =>
    go_enter Tryz.func5, Tryz.ntmps5
    go_wp2_with (first
      | (go_at_call 10; rw [HWQ.out]; refine (HW.out _).mono ?_; rintro e w2 ⟨rfl, hb2⟩; obtain ⟨⟨b0, b1, b2⟩, d0, d1, d2⟩ := HBX.out _ hb2)
      | (go_at_call 11; refine (HF.out _).mono ?_; rintro e w3 ⟨rfl, hb⟩; have hb3 := hb2.trans (hb.mono hb2.size); obtain ⟨⟨b0, b1, b2⟩, d0, d1, d2⟩ := HBX.out _ hb3)
      | (go_at_call 15; refine (HFW.out _ hb3).mono ?_; rintro e w4 ⟨rfl, rfl⟩; have hb4 := hb3.alloc hb3.size (.cells #[.slice d.A d.p.length d.c, .int .i64 d.op, .int .i64 d.n] 34); obtain ⟨⟨b0, b1, b2⟩, d0, d1, d2⟩ := HBX.out _ hb4)
      | (go_at_call 19; refine (HCK.out _ (HOK.out _ hb4)).mono ?_; rintro e w5 ⟨rfl, hb⟩; have hb5 := hb4.trans (hb.mono hb4.size); obtain ⟨⟨b0, b1, b2⟩, d0, d1, d2⟩ := HBX.out _ hb5)
      | (go_at_call 12; refine (HA2.out _ (HOK.out _ hb5)).mono ?_; rintro e w6 ⟨hb, A6, c6, rfl, hc6, hA6, hm6⟩; have hb6 := hb5.trans (hb.mono hb5.size); obtain ⟨⟨b0, b1, b2⟩, d0, d1, d2⟩ := HBX.out _ hb6)
      | (go_at_call 20; refine (HPF.out _ hb6).mono ?_; rintro e w7 ⟨rfl, hb⟩; have hb7 := hb6.trans (hb.mono hb6.size); have hm6 := hm6.at hb; obtain ⟨⟨b0, b1, b2⟩, d0, d1, d2⟩ := HBX.out _ hb7)
      | (go_at_call 21; refine (HIS.out _ hb7).mono ?_; rintro e w8 ⟨rfl, hb⟩; have hb7 := hb7.trans (hb.mono hb7.size); have hm6 := hm6.at hb; obtain ⟨⟨b0, b1, b2⟩, d0, d1, d2⟩ := HBX.out _ hb7)
      | (go_at_call 22; refine (HRI.out _ _ _ hm6).mono ?_; rintro e w9 ⟨rfl, hb⟩; have hb9 := hb7.trans (hb.mono hb7.size); have hm6 := hm6.at hb; obtain ⟨⟨b0, b1, b2⟩, d0, d1, d2⟩ := HBX.out _ hb9)
      | fail)
    refine (HFD.out _ _ _ hm6 hc6 hA6 hb9).mono ?_
    rintro e w10 ⟨hb, k, rfl, hk⟩
    have hb10 := hb9.trans (hb.mono hb9.size)
    have hkn := HNO.out k hk (fun z => by cases z.2)
    obtain ⟨hk1, hk2, -, -⟩ := hk
    have i1 : ¬ (M.length : Int) ≤ k := by omega
    have y1 : decide ((M.length : Int) ≤ k) = false := decide_eq_false i1
    have i2 : ¬ (0 : Int) ≤ k := by omega
    have y2 : decide ((0 : Int) ≤ k) = false := decide_eq_false i2
    have y3 : decide (k < 0) = true := decide_eq_true hkn
    clear hk1 hk2 hb
    go_wp2_with fail
    go_quiet (fail)
    go_wp2_with fail
    go_ret
    exact ⟨rfl, hB0.trans ((belowN hb10 _).mono hB0.size)⟩
  case true =>
    go_enter Tryz.func5, Tryz.ntmps5
    go_wp2_with (first
      | (go_at_call 10; rw [HWQ.out]; refine (HW.out _).mono ?_; rintro e w2 ⟨rfl, hb2⟩; obtain ⟨⟨b0, b1, b2⟩, d0, d1, d2⟩ := HBX.out _ hb2)
      | (go_at_call 11; refine (HF.out _).mono ?_; rintro e w3 ⟨rfl, hb⟩; have hb3 := hb2.trans (hb.mono hb2.size); obtain ⟨⟨b0, b1, b2⟩, d0, d1, d2⟩ := HBX.out _ hb3)
      | (go_at_call 15; refine (HFW.out _ hb3).mono ?_; rintro e w4 ⟨rfl, rfl⟩; have hb4 := hb3.alloc hb3.size (.cells #[.slice d.A d.p.length d.c, .int .i64 d.op, .int .i64 d.n] 34); obtain ⟨⟨b0, b1, b2⟩, d0, d1, d2⟩ := HBX.out _ hb4)
      | (go_at_call 19; refine (HCK.out _ (HOK.out _ hb4)).mono ?_; rintro e w5 ⟨rfl, hb⟩; have hb5 := hb4.trans (hb.mono hb4.size); obtain ⟨⟨b0, b1, b2⟩, d0, d1, d2⟩ := HBX.out _ hb5)
      | (go_at_call 12; refine (HA2.out _ (HOK.out _ hb5)).mono ?_; rintro e w6 ⟨hb, A6, c6, rfl, hc6, hA6, hm6⟩; have hb6 := hb5.trans (hb.mono hb5.size); obtain ⟨⟨b0, b1, b2⟩, d0, d1, d2⟩ := HBX.out _ hb6)
      | (go_at_call 20; refine (HPF.out _ hb6).mono ?_; rintro e w7 ⟨rfl, hb⟩; have hb7 := hb6.trans (hb.mono hb6.size); have hm6 := hm6.at hb; obtain ⟨⟨b0, b1, b2⟩, d0, d1, d2⟩ := HBX.out _ hb7)
      | (go_at_call 21; refine (HIS.out _ hb7).mono ?_; rintro e w8 ⟨rfl, hb⟩; have hb7 := hb7.trans (hb.mono hb7.size); have hm6 := hm6.at hb; obtain ⟨⟨b0, b1, b2⟩, d0, d1, d2⟩ := HBX.out _ hb7)
      | (go_at_call 22; refine (HRI.out _ _ _ hm6).mono ?_; rintro e w9 ⟨rfl, hb⟩; have hb9 := hb7.trans (hb.mono hb7.size); have hm6 := hm6.at hb; obtain ⟨⟨b0, b1, b2⟩, d0, d1, d2⟩ := HBX.out _ hb9)
      | fail)
    refine (HFD.out _ _ _ hm6 hc6 hA6 hb9).mono ?_
    rintro e w10 ⟨hb, k, rfl, hk⟩
    have hb10 := hb9.trans (hb.mono hb9.size)
    have hm10 := hm6.at hb
    obtain ⟨i, rfl, hm⟩ := HYES.out k hk h0 (by simp)
    obtain ⟨-, hk2, -, -⟩ := hk
    have i1 : ¬ (M.length : Int) ≤ (i : Int) := by omega
    have x1 : ¬ M.length ≤ i := by omega
    have i2 : ¬ (i : Int) < 0 := by omega
    have i3 : (0 : Int) ≤ (i : Int) := by omega
    have i4 : (i : Int) < (M.length : Int) := by omega
    have x4 : i < M.length := by omega
    obtain ⟨ad, P, cp, rfl, G⟩ := hm10.get hm
    have HG := Lib.hid (fun W (h : Below w10.heap.size w10 W) => And.intro (G W h).2 (HBX.out _ (hb10.trans (h.mono hb10.size))).2)
    have HGO := Lib.hid (fun W (h : Below w10.heap.size w10 W) => (G W h).1)
    have HS2 := Lib.hid (fun W h hb => HSM.out P cp (d.p, d.op, d.n) W h hb)
    rw [decide_eq_true rfl] at HS2
    simp only at HS2
    have hS := HG.out _ (Below.refl _ _)
    unfold Cem at hS
    simp only at hS
    have hbw : Below w10.heap.size w10 w10.drew := (Below.refl _ _).drew
    have hbd : Below wQ.heap.size wQ w10.drew := hb10.drew
    clear hk2 hb hm hm10 hm6 G
    go_wp2_with fail
    go_region_held3 (fun w' => (w'.cell? (ad.add (i * 3)) = some (.slice P d.p.length cp) ∧ w'.cell? ⟨(ad.add (i * 3)).block, (ad.add (i * 3)).off + 1, none⟩ = some (.int .i64 d.op) ∧ w'.cell? ⟨(ad.add (i * 3)).block, (ad.add (i * 3)).off + 2, none⟩ = some (.int .i64 d.n)) ∧ w'.cell? ⟨w.heap.size + 1, 0, none⟩ = some (.slice d.A d.p.length d.c) ∧ w'.cell? ⟨w.heap.size + 1, 1, none⟩ = some (.int .i64 d.op) ∧ w'.cell? ⟨w.heap.size + 1, 2, none⟩ = some (.int .i64 d.n)) (exact hS) (first
      | (go_at_call 24; (with_reducible refine (HS2.out _ (HGO.out _ hbw) hbd).mono ?_); rintro e w11 ⟨rfl, hb11⟩; have hb12 := hbd.trans (hb11.mono hbd.size); have hS := HG.out _ (hbw.trans hb11); unfold Cem at hS; simp only at hS)
      | fail)
    go_wp2_with fail
    go_ret
    exact ⟨rfl, hB0.trans (hb12.mono hB0.size)⟩

end Go.Proofs.YtofhgaioidfdmaaGreat.Sites
