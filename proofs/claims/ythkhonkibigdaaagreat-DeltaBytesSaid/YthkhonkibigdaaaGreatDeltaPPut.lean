/-
  Package delta, walked: a delta's bytes.
-/
import Derived.Test.YthkhonkibigdaaaGreatDeltaPSmall
import Derived.Test.YthkhonkibigdaaaGreatCodeH
namespace Go.Proofs.YthkhonkibigdaaaGreat.Delta
open Go.RowKit Leb Mem Wire Zig _root_.Go.Proofs.YthkhonkibigdaaaGreat.Arena _root_.Go.Proofs.YthkhonkibigdaaaGreat.Kinds _root_.Go.Proofs.YthkhonkibigdaaaGreat.Code _root_.Go.Proofs.YthkhonkibigdaaaGreat.Path
set_option linter.unusedVariables false
attribute [local go_sem ↓] Go.wp_at_zero Go.wp_at_succ

theorem p_right_iff (p : List Int) (op : Int) : Right p op ↔ (p.length ≤ 30 ∧ nokids p = false ∧ inrow op 1 7 = true) := by
  have h1 : nokids p = false ↔ ∀ k ∈ p, 0 ≤ k ∧ k ≤ 199 := by
    unfold nokids
    rw [List.any_eq_false]
    simp [inrow]
  have h2 : inrow op 1 7 = true ↔ 1 ≤ op ∧ op ≤ 7 := by unfold inrow; rw [decide_eq_true_eq]
  rw [h1, h2]
  exact ⟨fun h => ⟨h.len, h.rng, h.op0, h.op1⟩, fun h => ⟨h.1, h.2.1, h.2.2.1, h.2.2.2⟩⟩

set_option maxRecDepth 100000 in
set_option maxHeartbeats 4000000 in
/-- What may not be put, is not. -/
theorem Put_bad (DA : Option Addr) (dc : Nat) (dp : List Int) (op n : Int) (w : World) (hd : IRow w w.heap.size DA dp) (hl : dp.length ≤ 1000000) (hr : ¬ Right dp op) :
    Calls Tryz.prog 7 #[.agg #[.slice DA dp.length dc, .int .i64 op, .int .i64 n]] w fun e w' => e = .returned (.tuple #[.string ⟨#[]⟩, .int .i64 17]) ∧ Below w.heap.size w w' := by
  have hb1 : Below w.heap.size w (w.alloc (.cells #[.slice DA dp.length dc, .int .i64 op, .int .i64 n] 24)) := (Below.refl _ _).alloc (Nat.le_refl _) _
  have HC := Lib.hid (containsFunc_any DA dc dp _ (hd.at hb1) hl)
  have HO := Lib.hid (fun W => isOperator_any op W)
  have HB := Lib.hid hb1
  rw [p_right_iff] at hr
  by_cases h1 : dp.length ≤ 30
  · have j1 : ¬ (30 : Int) < (dp.length : Int) := by omega
    cases h2 : nokids dp
    · have h3 : inrow op 1 7 = false := by
        cases h3 : inrow op 1 7
        · rfl
        · exact absurd ⟨h1, h2, h3⟩ hr
      rw [h2] at HC
      rw [h3] at HO
      clear hd hr h1 h2 h3 hb1
      go_enter Tryz.func7, Tryz.ntmps7
      go_wp2_with (first
        | (go_at_call 20; refine HC.out.mono ?_; rintro e w1 ⟨rfl, rfl⟩)
        | (go_at_call 22; refine (HO.out _).mono ?_; rintro e w2 ⟨rfl, rfl⟩))
      go_returns
      exact ⟨rfl, HB.out⟩
    · rw [h2] at HC
      clear hd hr h1 h2 hb1
      go_enter Tryz.func7, Tryz.ntmps7
      go_wp2_with (first
        | (go_at_call 20; refine HC.out.mono ?_; rintro e w1 ⟨rfl, rfl⟩))
      go_returns
      exact ⟨rfl, HB.out⟩
  · have j1 : (30 : Int) < (dp.length : Int) := by omega
    clear hd hr h1 hb1
    go_enter Tryz.func7, Tryz.ntmps7
    go_wp2
    go_returns
    exact ⟨rfl, HB.out⟩

/-- What is written of the first numbers. -/
def putk (p : List Int) (k : Nat) : List UInt8 := lput p.length ++ pathb (p.take k)
theorem putk_zero (p : List Int) : putk p 0 = [] ++ lput p.length := by simp [putk, pathb]
theorem putk_succ {p : List Int} {k : Nat} {x : Int} (h : p[k]? = some x) : putk p (k + 1) = putk p k ++ lput x.toNat := by
  unfold putk pathb
  rw [take_snoc p k x h]
  simp
theorem putk_len {p : List Int} (hl : p.length ≤ 30) (k : Nat) (hr : ∀ x ∈ p, 0 ≤ x ∧ x ≤ 199) : (putk p k).length ≤ 10 + 10 * k := by
  induction k with
  | zero => rw [putk_zero, List.nil_append]; have := lput_len10 (n := p.length) (by omega); omega
  | succ k ih =>
    cases h : p[k]? with
    | none =>
      have : putk p (k + 1) = putk p k := by
        unfold putk
        rw [List.take_of_length_le (by have := List.getElem?_eq_none_iff.1 h; omega), List.take_of_length_le (by have := List.getElem?_eq_none_iff.1 h; omega)]
      rw [this]; omega
    | some x =>
      have hx := hr x (List.mem_of_getElem? h)
      have := lput_len10 (n := x.toNat) (by omega)
      rw [putk_succ h, List.length_append]; omega

/-- Since Q a writer has been made, and has come to hold l; all that there was is as it was. -/
def PW (Q : World) (l : List UInt8) (w : World) : Prop := ∃ w2, Below Q.heap.size Q w2 ∧ Wb Q.heap.size none w2 l w
section
variable {Q w w' : World} {l : List UInt8}
theorem PW.to (h : PW Q l w) : Below Q.heap.size Q w := by
  obtain ⟨w2, h1, q⟩ := h
  exact h1.trans (q.to_below h1.size (Nat.le_refl _) (fun k e => by cases e))
theorem PW.drew (h : PW Q l w) : PW Q l w.drew := by
  obtain ⟨w2, h1, q⟩ := h
  exact ⟨w2, h1, q.drew⟩
theorem PW.new (Q : World) : Calls Tryz.prog 23 #[] Q.drew fun e w' => e = .returned (.pointer (some ⟨Q.heap.size, 0, none⟩)) ∧ PW Q [] w' :=
  (New_any Q.drew).mono (fun e w' h => ⟨h.1, w', (Below.refl _ _).drew.trans h.2.2, Wb.start h.2.1⟩)
theorem PW.num (h : PW Q l w) (n : Int) (h0 : 0 ≤ n) (h1 : n ≤ 18446744073709551615) (hl : l.length + 10 ≤ 1073741824) :
    Calls Tryz.prog 24 #[.pointer (some ⟨Q.heap.size, 0, none⟩), .int .u64 n] w fun e w' => e = .returned (.pointer (some ⟨Q.heap.size, 0, none⟩)) ∧ PW Q (l ++ lput n.toNat) w' := by
  obtain ⟨w2, h2, q⟩ := h
  exact (q.num n h0 h1 hl).mono (fun e w' k => ⟨k.1, w2, h2, k.2⟩)
theorem PW.byte (h : PW Q l w) (b : UInt8) (hl : l.length ≤ 1073741824) :
    Calls Tryz.prog 25 #[.pointer (some ⟨Q.heap.size, 0, none⟩), .int .u8 b.toNat] w fun e w' => e = .returned (.pointer (some ⟨Q.heap.size, 0, none⟩)) ∧ PW Q (l ++ [b]) w' := by
  obtain ⟨w2, h2, q⟩ := h
  exact (q.byte b hl).mono (fun e w' k => ⟨k.1, w2, h2, k.2⟩)
theorem PW.int (h : PW Q l w) (n : Int) (h0 : -9223372036854775808 ≤ n) (h1 : n ≤ 9223372036854775807) (hl : l.length + 10 ≤ 1073741824) :
    Calls Tryz.prog 26 #[.pointer (some ⟨Q.heap.size, 0, none⟩), .int .i64 n] w fun e w' => e = .returned (.pointer (some ⟨Q.heap.size, 0, none⟩)) ∧ PW Q (l ++ Zig.zput n) w' := by
  obtain ⟨w2, h2, q⟩ := h
  exact (q.int n h0 h1 hl).mono (fun e w' k => ⟨k.1, w2, h2, k.2⟩)
theorem PW.bytes (h : PW Q l w) : Calls Tryz.prog 27 #[.pointer (some ⟨Q.heap.size, 0, none⟩)] w fun e w' => e = .returned (.string ⟨l.toArray⟩) ∧ PW Q l w' := by
  obtain ⟨w2, h2, q⟩ := h
  exact q.bytes.mono (fun e w' k => ⟨k.1, w2, h2, k.2 ▸ q⟩)
end

set_option maxRecDepth 100000 in
set_option maxHeartbeats 4000000 in
/-- What may be put, is. -/
theorem Put_good (DA : Option Addr) (dc : Nat) (dp : List Int) (op n : Int) (w : World) (hd : IRow w w.heap.size DA dp) (hr : Right dp op) (hn : N64 n) :
    Calls Tryz.prog 7 #[.agg #[.slice DA dp.length dc, .int .i64 op, .int .i64 n]] w fun e w' => e = .returned (.tuple #[.string ⟨(dput dp op n).toArray⟩, .int .i64 0]) ∧ Below w.heap.size w w' := by
  have HE := Lib.hid (show dput dp op n = putk dp dp.length ++ tb op :: Zig.zput n by unfold dput putk Zig.zput; rw [List.take_length]; simp)
  generalize dput dp op n = D at *
  have hb1 : Below w.heap.size w (w.alloc (.cells #[.slice DA dp.length dc, .int .i64 op, .int .i64 n] 24)) := (Below.refl _ _).alloc (Nat.le_refl _) _
  have bX := Blk.new w 24 #[.slice DA dp.length dc, .int .i64 op, .int .i64 n]
  obtain ⟨wQ, hwQ⟩ : ∃ wQ, w.alloc (.cells #[.slice DA dp.length dc, .int .i64 op, .int .i64 n] 24) = wQ := ⟨_, rfl⟩
  rw [hwQ] at hb1 bX
  have hl30 := hr.len
  have HC := Lib.hid (containsFunc_any DA dc dp wQ (hd.at hb1) (by omega))
  have HO := Lib.hid (fun W => isOperator_any op W)
  have HRT := (p_right_iff dp op).1 hr
  rw [HRT.2.1] at HC
  rw [HRT.2.2] at HO
  have j1 : ¬ (30 : Int) < (dp.length : Int) := by omega
  have HBX := Lib.hid (fun W (h : Below wQ.heap.size wQ W) => (bX.below h bX.lt).three)
  have HP := Lib.hid (fun W (h : Below wQ.heap.size wQ W) => IRow.below (hd.at hb1) h)
  have HB := Lib.hid hb1
  have HW := Lib.hid hwQ
  have HR := Lib.hid hr
  have hu1 : IntKind.u64.wrap (dp.length : Int) = (dp.length : Int) := by rw [IntKind.wrap_u64]; omega
  obtain ⟨b0, b1, b2⟩ := HBX.out _ (Below.refl _ _)
  rw [← hwQ] at b0 b1 b2
  clear hd hr HRT bX hwQ hb1
  go_enter Tryz.func7, Tryz.ntmps7
  go_wp2_with (first
    | (go_at_call 20; rw [HW.out]; refine HC.out.mono ?_; rintro e w1 ⟨rfl, hq⟩; have hq := hq.symm; subst hq; obtain ⟨b0, b1, b2⟩ := HBX.out _ (Below.refl _ _))
    | (go_at_call 22; refine (HO.out _).mono ?_; rintro e w2 ⟨rfl, hq⟩; have hq := hq.symm; subst hq))
  have hC := HBX.out _ (Below.refl _ _)
  have H0 := Lib.hid (PW.new wQ)
  have H1 := Lib.hid (fun W (h : PW wQ [] W) => PW.num h (dp.length : Int) (by omega) (by omega) (by simp))
  rw [Int.toNat_natCast, ← putk_zero] at H1
  go_region_held3 (fun w' => w'.cell? ⟨w.heap.size, 0, none⟩ = some (.slice DA dp.length dc) ∧ w'.cell? ⟨w.heap.size, 1, none⟩ = some (.int .i64 op) ∧ w'.cell? ⟨w.heap.size, 2, none⟩ = some (.int .i64 n)) (first | exact hC | fail) (first
    | (go_at_call 23; (with_reducible refine H0.out.mono ?_); rintro e w2 ⟨rfl, hS⟩; have hC := HBX.out _ hS.to)
    | (go_at_call 24; (with_reducible refine (H1.out _ hS).mono ?_); rintro e w3 ⟨rfl, hS⟩; have hC := HBX.out _ hS.to)
    | fail)
  obtain ⟨b0, b1, b2⟩ := HBX.out _ hS.to
  go_wp2_with fail
  go_loopw [31] (fun i wr => ∃ k : Nat, k ≤ dp.length ∧ i = .int .i64 k ∧ PW wQ (putk dp k) wr) (fun i _ => dp.length - (intOf i).toNat)
  case atStart => exact ⟨0, by omega, rfl, hS⟩
  case round =>
    obtain ⟨k, hk, rfl, hS⟩ := hrel
    by_cases hlt : k < dp.length
    · obtain ⟨x, hxk⟩ : ∃ x, dp[k]? = some x := ⟨_, List.getElem?_eq_getElem hlt⟩
      obtain ⟨ad, rfl, hbk, h0'⟩ := HP.out _ hS.to k x hxk
      have hx1 := HR.out.rng x (List.mem_of_getElem? hxk)
      have i1 : (k : Int) < (dp.length : Int) := by omega
      have i2 : (0 : Int) ≤ (k : Int) := by omega
      have hu2 : IntKind.u64.wrap x = x := by rw [IntKind.wrap_u64]; omega
      have hu3 : x % 18446744073709551616 = x := by omega
      have hln := putk_len hl30 k HR.out.rng
      have HN := Lib.hid (hS.num x hx1.1 (by omega) (by omega))
      rw [← putk_succ hxk] at HN
      clear hxk hx1 hln
      go_wp2_with (go_at_call 24; (with_reducible refine HN.out.mono ?_); rintro e w4 ⟨rfl, hS⟩)
      go_roundw
      case rel => exact ⟨k + 1, by omega, by go_num, hS⟩
      case measure => simp [intOf]; omega
    · have hk9 : k = dp.length := by omega
      subst hk9
      have i1 : ¬ (dp.length : Int) < (dp.length : Int) := by omega
      obtain ⟨b0, b1, b2⟩ := HBX.out _ hS.to
      go_wp2_with fail
      have hC := HBX.out _ hS.to
      have hu8 : IntKind.u8.wrap op = op := by have := HR.out.op0; have := HR.out.op1; rw [IntKind.wrap_u8]; omega
      have hln := putk_len hl30 dp.length HR.out.rng
      have K1 := Lib.hid (fun W (h : PW wQ (putk dp dp.length) W) => h.byte (tb op) (by omega))
      rw [tb_val (by have := HR.out.op0; omega) (by have := HR.out.op1; omega)] at K1
      have K2 := Lib.hid (fun W (h : PW wQ (putk dp dp.length ++ [tb op]) W) => h.int n hn.1 hn.2 (by simp; omega))
      clear hln hn
      go_region_held3 (fun w' => w'.cell? ⟨w.heap.size, 0, none⟩ = some (.slice DA dp.length dc) ∧ w'.cell? ⟨w.heap.size, 1, none⟩ = some (.int .i64 op) ∧ w'.cell? ⟨w.heap.size, 2, none⟩ = some (.int .i64 n)) (first | exact hC | fail) (first
        | (go_at_call 25; (with_reducible refine (K1.out _ hS.drew).mono ?_); rintro e w5 ⟨rfl, hS⟩; have hC := HBX.out _ hS.to)
        | (go_at_call 26; (with_reducible refine (K2.out _ hS).mono ?_); rintro e w6 ⟨rfl, hS⟩; have hC := HBX.out _ hS.to)
        | (go_at_call 27; (with_reducible refine (PW.bytes hS).mono ?_); rintro e w7 ⟨rfl, hS⟩; have hC := HBX.out _ hS.to)
        | fail)
      go_wp2
      go_returns
      exact ⟨by rw [HE.out]; first | done | rfl, HB.out.trans (hS.to.mono HB.out.size)⟩

end Go.Proofs.YthkhonkibigdaaaGreat.Delta
