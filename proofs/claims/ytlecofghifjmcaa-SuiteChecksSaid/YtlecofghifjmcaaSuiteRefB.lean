/-
  The reference of tests, walked: tests as bytes.
-/
import Derived.Test.YtlecofghifjmcaaSuiteRefA
import Derived.Test.YtlecofghifjmcaaCodeG
import Derived.Deep.RegionHeld3
import Derived.Deep.DrawnRows
set_option linter.unusedVariables false
namespace Go.Proofs.Ytlecofghifjmcaa.Suite
open Go.RowKit Leb Mem Wire Zig _root_.Go.Proofs.Ytlecofghifjmcaa.Arena _root_.Go.Proofs.Ytlecofghifjmcaa.Delta _root_.Go.Proofs.Ytlecofghifjmcaa.Path _root_.Go.Proofs.Ytlecofghifjmcaa.Cat
attribute [local go_sem ↓] Go.wp_at_zero Go.wp_at_succ

/-- Tests as bytes, none where they may not be put. -/
def sputE (ts : List (List Int)) (f : Int) : List UInt8 := if serr ts f = 0 then sput ts f else []
theorem add_0 (a : Addr) : a.add 0 = a := rfl
theorem row_snoc (ts : List (List Int)) (k : Nat) (t : List Int) (h : ts[k]? = some t) : rowb (ts.take (k + 1)) = rowb (ts.take k) ++ intb t := by
  unfold rowb
  rw [take_one h]; simp
theorem int_snoc (t : List Int) (k : Nat) (x : Int) (h : t[k]? = some x) : intb (t.take (k + 1)) = intb (t.take k) ++ Zig.zput x := by
  unfold intb Zig.zput
  rw [take_one h]; simp

set_option maxRecDepth 100000 in
set_option maxHeartbeats 1000000 in
theorem ref_SPut_bad (A : Option Addr) (c : Nat) (ts : List (List Int)) (f : Int) (w : World) (h : TRow w A ts) (he : serr ts f ≠ 0) :
    Calls Try.prog 14 #[.slice A ts.length c, .int .i64 f] w fun e w' => e = .returned (.tuple #[.string ⟨#[]⟩, .int .i64 (serr ts f)]) ∧ w' = w := by
  cases ts with
  | nil =>
    have HE := Lib.hid (show serr [] f = 18 from if_pos (.inl rfl))
    clear he
    go_enter Try.func14, Try.ntmps14
    go_wp2_with fail
    go_ret2
    exact ⟨by rw [HE.out]; first | done | rfl, rfl⟩
  | cons t r =>
    obtain ⟨ad, P, cp, rfl, -, -, k1⟩ := h 0 t rfl
    rw [add_0] at k1
    have hw : wid (t :: r) = t.length := rfl
    have e0 : (((t :: r).length : Int) == 0) = false := by rw [beq_eq_false_iff_ne]; simp only [List.length_cons]; omega
    have j0 : (0 : Int) < ((t :: r).length : Int) := by simp only [List.length_cons]; omega
    have HN : Hid ((t :: r).length ≠ 0) := Lib.hid (by simp)
    have HC := Lib.hid (ref_SCheck_any (t.length : Int) (some ad) c (t :: r) f w h)
    have HS : Hid (serr (t :: r) f = if (t :: r).length = 0 ∨ 12 < t.length then 18 else scheck (t.length : Int) (t :: r) f) := Lib.hid rfl
    generalize serr (t :: r) f = E at *
    generalize scheck (t.length : Int) (t :: r) f = q at *
    generalize (t :: r).length = n at *
    clear h hw
    by_cases h12 : 12 < t.length
    · have j1 : (12 : Int) < (t.length : Int) := by omega
      have HE := Lib.hid (show E = 18 by rw [HS.out, if_pos (.inr h12)])
      clear he
      go_enter Try.func14, Try.ntmps14
      go_wp2_with fail
      go_ret2
      exact ⟨by rw [HE.out]; first | done | rfl, rfl⟩
    · have j1 : ¬ (12 : Int) < (t.length : Int) := by omega
      have HE := Lib.hid (show E = q by rw [HS.out, if_neg]; rintro (z | z); exact HN.out z; omega)
      have hq : (q == 0) = false := by rw [← HE.out]; simpa using he
      clear he
      go_enter Try.func14, Try.ntmps14
      go_wp2_with (go_at_call 11; refine HC.out.mono ?_; rintro e w1 ⟨rfl, rfl⟩)
      go_ret2
      exact ⟨by rw [HE.out]; first | done | rfl, rfl⟩

set_option maxRecDepth 100000 in
set_option maxHeartbeats 4000000 in
theorem ref_SPut_good (A : Option Addr) (c : Nat) (ts : List (List Int)) (f : Int) (w : World) (h : TRow w A ts) (hn : T64 ts) (g : SRight ts f) :
    Calls Try.prog 14 #[.slice A ts.length c, .int .i64 f] w fun e w' => e = .returned (.tuple #[.string ⟨(sput ts f).toArray⟩, .int .i64 0]) ∧ Below w.heap.size w w' := by
  obtain ⟨t, ht⟩ : ∃ t, ts[0]? = some t := ⟨_, List.getElem?_eq_getElem (by have := g.n0; omega)⟩
  have hw : wid ts = t.length := by
    cases ts with
    | nil => simp at ht
    | cons a r => simp at ht; subst ht; rfl
  obtain ⟨n0, n1, w12, hsame, f0, f1⟩ := id g
  have hz := serr_zero.2 g
  unfold serr at hz
  rw [if_neg (by omega), hw] at hz
  rw [hw] at w12 hsame
  obtain ⟨ad, P, cp, rfl, K⟩ := h.get ht
  have HK := Lib.hid (fun W hb => (add_0 ad ▸ (K W hb).2 : W.cell? ad = some (.slice P t.length cp)))
  have k0 := HK.out _ (Below.refl _ _)
  have HC := Lib.hid (ref_SCheck_any (t.length : Int) (some ad) c ts f w h)
  rw [hz] at HC
  have HX := Lib.hid h
  have HN := Lib.hid hn
  have e0 : ((ts.length : Int) == 0) = false := by rw [beq_eq_false_iff_ne]; omega
  have j0 : (0 : Int) < (ts.length : Int) := by omega
  have j1 : ¬ (12 : Int) < (t.length : Int) := by omega
  have H1 := Lib.hid (fun W => ref_put_any f (by omega) (by omega) W)
  have H2 := Lib.hid (fun W => ref_put_any (ts.length : Int) (by omega) (by omega) W)
  have H3 := Lib.hid (fun W => ref_put_any (t.length : Int) (by omega) (by omega) W)
  rw [Int.toNat_natCast] at H2 H3
  have u1 : IntKind.u64.wrap f = f := wrap_u64_of (by omega) (by omega)
  have u2 : IntKind.u64.wrap (ts.length : Int) = ts.length := wrap_u64_of (by omega) (by omega)
  have u3 : IntKind.u64.wrap (t.length : Int) = t.length := wrap_u64_of (by omega) (by omega)
  have l1 := lput_len10 (n := f.toNat) (by omega)
  have l2 := lput_len10 (n := ts.length) (by omega)
  have l3 := lput_len10 (n := t.length) (by omega)
  have hq1 := fun W => run_string_add_sum (P := Try.prog) W (⟨(lput f.toNat).toArray⟩ : ByteArray) (⟨(lput ts.length).toArray⟩ : ByteArray) (by rw [Code.cstr_size, Code.cstr_size]; omega)
  have hq2 := fun W => run_string_add_sum (P := Try.prog) W ((⟨(lput f.toNat).toArray⟩ : ByteArray) ++ (⟨(lput ts.length).toArray⟩ : ByteArray)) (⟨(lput t.length).toArray⟩ : ByteArray) (by rw [Code.cstr_app, Code.cstr_size, Code.cstr_size, List.length_append]; omega)
  obtain ⟨L1, hL1⟩ : ∃ L1, lput f.toNat ++ lput ts.length ++ lput t.length = L1 := ⟨_, rfl⟩
  have HE : Hid (sput ts f = L1 ++ rowb ts) := Lib.hid (by rw [← hL1]; unfold sput; rw [hw]; simp)
  have hL1l : L1.length ≤ 30 := by rw [← hL1, List.length_append, List.length_append]; omega
  have str1 : Hid (((⟨(lput f.toNat).toArray⟩ : ByteArray) ++ (⟨(lput ts.length).toArray⟩ : ByteArray)) ++ (⟨(lput t.length).toArray⟩ : ByteArray) = ⟨L1.toArray⟩) := Lib.hid (by rw [Code.cstr_app, Code.cstr_app, hL1])
  have HRL := Lib.hid (fun k => show (rowb (ts.take k)).length ≤ 2400 by
    have h1 := rowb_len (m := 12) (ts := ts.take k) (fun z hz => by have := hsame z (List.mem_of_mem_take hz); omega) (fun z hz => hn z (List.mem_of_mem_take hz))
    rw [List.length_take] at h1
    omega)
  have HIL := Lib.hid (fun (z : List Int) (hz : z ∈ ts) k => show (intb (z.take k)).length ≤ 120 by
    have h1 := intb_len (t := z.take k) (fun x hx => hn z hz x (List.mem_of_mem_take hx))
    have h2 := hsame z hz
    rw [List.length_take] at h1
    omega)
  have HSM := Lib.hid hsame
  clear K h hn g hz hw ht hL1 hsame
  go_enter Try.func14, Try.ntmps14
  go_wp2_with (go_at_call 11; refine HC.out.mono ?_; rintro e w1 ⟨rfl, rfl⟩)
  have jn : 0 < ts.length := by omega
  have jm : ¬ ts.length ≤ 0 := by omega
  have jz : ¬ ts.length = 0 := by omega
  go_region_held3 (fun w' => w'.cell? ad = some (.slice P t.length cp)) (first | exact k0) (first
    | (go_at_call 32; first
        | ((with_reducible refine (H1.out _).mono ?_); rintro e w2 ⟨rfl, hb⟩; have hb2 := (Below.refl w1.heap.size w1).drew.trans hb; have k0 := HK.out _ hb2)
        | ((with_reducible refine (H2.out _).mono ?_); rintro e w3 ⟨rfl, hb⟩; have hb3 := hb2.trans (hb.mono hb2.size); have k0 := HK.out _ hb3)
        | ((with_reducible refine (H3.out _).mono ?_); rintro e w4 ⟨rfl, hb⟩; have hb4 := hb3.trans (hb.mono hb3.size); have k0 := HK.out _ hb4)
        | fail)
    | fail)
  go_wp2_with fail
  rw [str1.out]
  go_loopw [7, 8] (fun s i wr => ∃ k : Nat, k ≤ ts.length ∧ i = .int .i64 k ∧ s = .string ⟨(L1 ++ rowb (ts.take k)).toArray⟩ ∧ Below w1.heap.size w1 wr) (fun _ i _ => ts.length - (intOf i).toNat)
  case atStart => exact ⟨0, by omega, rfl, by simp [rowb], hb4⟩
  case round =>
    obtain ⟨k, hk, rfl, rfl, hB⟩ := hrel
    by_cases hlt : k < ts.length
    · obtain ⟨m, hm⟩ : ∃ m, ts[k]? = some m := ⟨_, List.getElem?_eq_getElem hlt⟩
      obtain ⟨ad', P', cp', e9, K⟩ := HX.out.get hm
      cases e9
      have HKm := Lib.hid K
      have HS := Lib.hid (row_snoc ts k m hm)
      have hr := HRL.out k
      have i1 : (k : Int) < (ts.length : Int) := by omega
      have i2 : (0 : Int) ≤ (k : Int) := by omega
      have i5 : IntKind.i64.wrap ((k : Int) + 1) = (k : Int) + 1 := IntWalk.i64_in _ (by omega)
      have HIm := Lib.hid (HIL.out m (List.mem_of_getElem? hm))
      have HNm := Lib.hid (HN.out m (List.mem_of_getElem? hm))
      have hml : m.length ≤ 12 := by rw [HSM.out m (List.mem_of_getElem? hm)]; exact w12
      obtain ⟨L2, hL2⟩ : ∃ L2, L1 ++ rowb (ts.take k) = L2 := ⟨_, rfl⟩
      rw [hL2]
      have hL2l : L2.length ≤ 2500 := by rw [← hL2, List.length_append]; omega
      have HL2 := Lib.hid hL2
      clear hm hr hL2 K
      go_wp2_with fail
      go_loopw [7, 9] (fun s i wr => ∃ j : Nat, j ≤ m.length ∧ i = .int .i64 j ∧ s = .string ⟨(L2 ++ intb (m.take j)).toArray⟩ ∧ Below w1.heap.size w1 wr) (fun _ i _ => m.length - (intOf i).toNat)
      case atStart => exact ⟨0, by omega, rfl, by simp [intb], hB⟩
      case round =>
        obtain ⟨j, hj, rfl, rfl, hB⟩ := hrel
        have km := (HKm.out _ hB).2
        by_cases hlt2 : j < m.length
        · obtain ⟨x, hx⟩ : ∃ x, m[j]? = some x := ⟨_, List.getElem?_eq_getElem hlt2⟩
          obtain ⟨adx, rfl, hbx, kx⟩ := (HKm.out _ hB).1.row j x hx
          have hN := HNm.out x (List.mem_of_getElem? hx)
          have HZ := Lib.hid (fun W => Zig.ref_Put_any x hN.1 hN.2 W)
          have hzr := Zig.zig_range hN.1 hN.2
          have HS2 := Lib.hid (int_snoc m j x hx)
          have hr2 := HIm.out j
          have i3 : (j : Int) < (m.length : Int) := by omega
          have i4 : (0 : Int) ≤ (j : Int) := by omega
          have i6 : IntKind.i64.wrap ((j : Int) + 1) = (j : Int) + 1 := IntWalk.i64_in _ (by omega)
          obtain ⟨L3, hL3⟩ : ∃ L3, L2 ++ intb (m.take j) = L3 := ⟨_, rfl⟩
          rw [hL3]
          have hz1 : (⟨L3.toArray⟩ : ByteArray).size ≤ 3000 := by rw [Code.cstr_size, ← hL3, List.length_append]; omega
          have hz2 : (⟨(Zig.zput x).toArray⟩ : ByteArray).size ≤ 10 := by rw [Code.cstr_size]; exact lput_len10 (n := (Zig.zig x).toNat) (by omega)
          have HL3 := Lib.hid hL3
          clear hx hN hzr hr2 hL3
          go_wp2_with (go_at_call 33; refine (HZ.out _).mono ?_; rintro e w5 ⟨rfl, hb⟩; have hb5 := hB.trans (hb.mono hB.size))
          go_roundw
          case rel => exact ⟨j + 1, by omega, by go_num, by rw [HS2.out, ← List.append_assoc, HL3.out, ← Code.cstr_app], hb5⟩
          case measure => simp [intOf]; omega
        · obtain rfl : j = m.length := by omega
          rw [List.take_length]
          have i3 : ¬ (m.length : Int) < (m.length : Int) := by omega
          go_wp2_with fail
          go_roundw
          case rel => exact ⟨k + 1, by omega, by go_num, by rw [HS.out, ← List.append_assoc, HL2.out], hB⟩
          case measure => simp [intOf]; omega
    · obtain rfl : k = ts.length := by omega
      rw [List.take_length]
      have i1 : ¬ (ts.length : Int) < (ts.length : Int) := by omega
      go_wp2_with fail
      go_ret2
      exact ⟨by rw [HE.out]; rfl, hB⟩
theorem ref_SPut_any (A : Option Addr) (c : Nat) (ts : List (List Int)) (f : Int) (w : World) (h : TRow w A ts) (hn : T64 ts) :
    Calls Try.prog 14 #[.slice A ts.length c, .int .i64 f] w fun e w' => e = .returned (.tuple #[.string ⟨(sputE ts f).toArray⟩, .int .i64 (serr ts f)]) ∧ Below w.heap.size w w' := by
  by_cases he : serr ts f = 0
  · have e : sputE ts f = sput ts f := if_pos he
    rw [e, he]
    exact ref_SPut_good A c ts f w h hn (serr_zero.1 he)
  · have e : sputE ts f = [] := if_neg he
    rw [e]
    refine (ref_SPut_bad A c ts f w h he).mono ?_
    rintro e w' ⟨rfl, rfl⟩
    exact ⟨rfl, Below.refl _ _⟩

end Go.Proofs.Ytlecofghifjmcaa.Suite
