/-
  A block, walked: the state behind it, by the program.
-/
import Derived.Deep.Cut
import Derived.Deep.DeepCutAuto
import Derived.Test.YtidkakjghimimaaDoorShaWords
namespace Go.Proofs.YtidkakjghimimaaDoor.Sha
open Go.RowKit

/-- The cube roots lie in the program's own variable. -/
structure Cubes (w : World) : Prop where
  lt : 0 < w.heap.size
  cell : ∀ i, i < 64 → w.cell? ⟨0, i, none⟩ = some (.int .u32 ((cubes.getD i 0 : Nat) : Int))
theorem Cubes.below {w w' : World} (h : Cubes w) (hb : Below w.heap.size w w') : Cubes w' :=
  ⟨Nat.lt_of_lt_of_le h.lt hb.size, fun i hi => (hb.cell (p := ⟨0, i, none⟩) h.lt).trans (h.cell i hi)⟩
theorem Cubes.drew {w : World} (h : Cubes w) : Cubes w.drew := ⟨h.lt, h.cell⟩
theorem Cubes.alloc {w : World} (h : Cubes w) (o : Obj) : Cubes (w.alloc o) := h.below ((Below.refl _ w).alloc (Nat.le_refl _) o)
theorem Cubes.from {n : Nat} {w w' : World} (h : Cubes w) (hn : 0 < n) (hb : Below n w w') : Cubes w' :=
  ⟨Nat.lt_of_lt_of_le h.lt hb.size, fun i hi => (hb.cell (p := ⟨0, i, none⟩) hn).trans (h.cell i hi)⟩

theorem zero29 (W : World) : (zeroValue 29).run Tryd.prog W = .ok (.agg (u32s z8)) W := by kernel_rfl
theorem size29 : (Tryd.prog.info? 29).map (·.size) = some 8 := by kernel_rfl
theorem build26 (a b c d e f g h : Int) (W : World) :
    (Instr.build 26 #[(0, .int .u32 a), (1, .int .u32 b), (2, .int .u32 c), (3, .int .u32 d), (4, .int .u32 e), (5, .int .u32 f), (6, .int .u32 g), (7, .int .u32 h)]).run Tryd.prog W =
      .ok (.agg #[.int .u32 a, .int .u32 b, .int .u32 c, .int .u32 d, .int .u32 e, .int .u32 f, .int .u32 g, .int .u32 h]) W := by kernel_rfl
theorem index46 (l : List Nat) (hl : l.length = 64) (i : Nat) (hi : i < 64) (W : World) :
    (Instr.index 46 (.agg (u32s l)) (.int .i64 (i : Int))).run Tryd.prog W = .ok (.int .u32 ((l.getD i 0 : Nat) : Int)) W :=
  index_agg Tryd.underlying46 size25 i hi _ (u32s_at l i (by omega)) (agg25 W)
theorem index26 (l : List Nat) (hl : l.length = 8) (i : Nat) (hi : i < 8) (W : World) :
    (Instr.index 26 (.agg (u32s l)) (.int .i64 (i : Int))).run Tryd.prog W = .ok (.int .u32 ((l.getD i 0 : Nat) : Int)) W :=
  index_agg Tryd.underlying26 size25 i hi _ (u32s_at l i (by omega)) (agg25 W)

theorem st_u32s (s : St) : (#[.int .u32 ((s.a : Nat) : Int), .int .u32 ((s.b : Nat) : Int), .int .u32 ((s.c : Nat) : Int), .int .u32 ((s.d : Nat) : Int), .int .u32 ((s.e : Nat) : Int), .int .u32 ((s.f : Nat) : Int), .int .u32 ((s.g : Nat) : Int), .int .u32 ((s.h : Nat) : Int)] : Array Value) = u32s s.list := rfl

theorem not_u32 (e : Nat) (h : e < 4294967296) : bits .xor .u32 IntKind.u32.max (e : Int) = ((4294967295 - e : Nat) : Int) := by
  have hm : IntKind.u32.max = ((4294967295 : Nat) : Int) := rfl
  rw [hm, u32_xor_nat _ _ (by omega) h]
  congr 1
  apply Nat.eq_of_testBit_eq
  intro i
  rw [show (4294967295 : Nat) - e = 2 ^ 32 - (e + 1) by omega, Nat.testBit_two_pow_sub_succ h, Nat.testBit_xor, show (4294967295 : Nat) = 2 ^ 32 - 1 from rfl, Nat.testBit_two_pow_sub_one]
  by_cases hi : i < 32
  · simp [hi]
  · simp [hi, Nat.testBit_lt_two_pow (show e < 2 ^ i from Nat.lt_of_lt_of_le h (Nat.pow_le_pow_right (n := 2) (i := 32) (by omega) (by omega)))]

theorem great_bits (x k1 k2 k3 : Nat) (hx : x < 4294967296) (h1 : k1 ≤ 32) (h2 : k2 ≤ 32) (h3 : k3 ≤ 32) :
    bits .xor .u32 (bits .xor .u32 ((rot x k1 : Nat) : Int) ((rot x k2 : Nat) : Int)) ((rot x k3 : Nat) : Int) = ((rot x k1 ^^^ rot x k2 ^^^ rot x k3 : Nat) : Int) := by
  rw [u32_xor_nat _ _ (rot_lt k1 h1 hx) (rot_lt k2 h2 hx), u32_xor_nat _ _ (xor_lt (rot_lt k1 h1 hx) (rot_lt k2 h2 hx)) (rot_lt k3 h3 hx)]
theorem choose_bits (e f g : Nat) (he : e < 4294967296) (hf : f < 4294967296) (hg : g < 4294967296) (n : Int) (hn : n = ((4294967295 - e : Nat) : Int)) :
    bits .or .u32 (bits .and .u32 (e : Int) (f : Int)) (bits .and .u32 n (g : Int)) = ((choose e f g : Nat) : Int) := by
  rw [hn, u32_and_nat e f he hf, u32_and_nat _ g (by omega) hg, u32_or_nat _ _ (and_lt he) (and_lt (by omega))]; rfl
theorem major_bits (a b c : Nat) (ha : a < 4294967296) (hb : b < 4294967296) (hc : c < 4294967296) :
    bits .or .u32 (bits .or .u32 (bits .and .u32 (a : Int) (b : Int)) (bits .and .u32 (a : Int) (c : Int))) (bits .and .u32 (b : Int) (c : Int)) = ((major a b c : Nat) : Int) := by
  rw [u32_and_nat a b ha hb, u32_and_nat a c ha hc, u32_and_nat b c hb hc, u32_or_nat _ _ (and_lt ha) (and_lt ha), u32_or_nat _ _ (or_lt (and_lt ha) (and_lt ha)) (and_lt hb)]; rfl

set_option maxRecDepth 100000 in
set_option maxHeartbeats 1000000 in
theorem Block_any (hs : List Nat) (b : List UInt8) (hh : hs.length = 8) (hw : Words hs) (hb : b.length = 64) (w : World) (hG : Cubes w) :
    Calls Tryd.prog 14 #[.agg (u32s hs), .agg (u8s b)] w fun e w' => e = .returned (.agg (u32s (block hs b))) ∧ Below w.heap.size w w' := by
  have hz := zero29
  have HB := Lib.hid hb
  have HH := Lib.hid hh
  clear hb hh
  have HW := Lib.hid hw
  clear hw
  go_enter Tryd.func14, Tryd.ntmps14
  go_upto_region 1 with (fail)
  generalize hw1 : ((w.alloc (Obj.cells (u32s hs) 29)).alloc (Obj.cells (u8s b) 27)).alloc (Obj.cells (u32s z8) 29) = w1
  have hB1 : Below w.heap.size w w1 := by rw [← hw1]; exact (((Below.refl _ w).alloc (Nat.le_refl _) _).alloc (by simp) _).alloc (by simp; omega) _
  have hR1 : Row w1 w.heap.size 29 (u32s hs) := by rw [← hw1]; exact ((Row.new _ _ _).alloc _).alloc _
  have hR2 : Row w1 (w.heap.size + 1) 27 (u8s b) := by
    rw [← hw1]
    have := (Row.new (w.alloc (Obj.cells (u32s hs) 29)) 27 (u8s b)).alloc (Obj.cells (u32s z8) 29)
    simpa using this
  have hR3 : Row w1 (w.heap.size + 1 + 1) 29 (u32s z8) := by
    rw [← hw1]
    have := Row.new ((w.alloc (Obj.cells (u32s hs) 29)).alloc (Obj.cells (u8s b) 27)) 29 (u32s z8)
    simpa using this
  have hG1 : Cubes w1 := hG.below hB1
  have hsz1 : w.heap.size + 1 + 1 < w1.heap.size := hR3.lt
  clear hw1
  have h8 := HH.out
  have hok := St.of_ok HW.out
  have hlo := St.list_of HH.out
  have c0 : w1.cell? ⟨w.heap.size, 0, none⟩ = some (.int .u32 (((St.of hs).a : Nat) : Int)) := hR1.word 0 (by omega)
  have c1 : w1.cell? ⟨w.heap.size, 1, none⟩ = some (.int .u32 (((St.of hs).b : Nat) : Int)) := hR1.word 1 (by omega)
  have c2 : w1.cell? ⟨w.heap.size, 2, none⟩ = some (.int .u32 (((St.of hs).c : Nat) : Int)) := hR1.word 2 (by omega)
  have c3 : w1.cell? ⟨w.heap.size, 3, none⟩ = some (.int .u32 (((St.of hs).d : Nat) : Int)) := hR1.word 3 (by omega)
  have c4 : w1.cell? ⟨w.heap.size, 4, none⟩ = some (.int .u32 (((St.of hs).e : Nat) : Int)) := hR1.word 4 (by omega)
  have c5 : w1.cell? ⟨w.heap.size, 5, none⟩ = some (.int .u32 (((St.of hs).f : Nat) : Int)) := hR1.word 5 (by omega)
  have c6 : w1.cell? ⟨w.heap.size, 6, none⟩ = some (.int .u32 (((St.of hs).g : Nat) : Int)) := hR1.word 6 (by omega)
  have c7 : w1.cell? ⟨w.heap.size, 7, none⟩ = some (.int .u32 (((St.of hs).h : Nat) : Int)) := hR1.word 7 (by omega)
  clear h8
  obtain ⟨s, hs9⟩ : ∃ s, s = St.of hs := ⟨_, rfl⟩
  rw [← hs9] at c0 c1 c2 c3 c4 c5 c6 c7 hok hlo
  have HL := Lib.hid hlo
  have HS := Lib.hid hs9
  clear hs9 hlo
  go_quiet (fail)
  clear c0 c1 c2 c3 c4 c5 c6 c7
  replace hB1 : Below w.heap.size w (w1.drewN nq) := ⟨hB1.os, hB1.tape, hB1.output, hB1.size, hB1.block⟩
  replace hR1 : Row (w1.drewN nq) _ _ _ := hR1
  replace hR2 : Row (w1.drewN nq) _ _ _ := hR2
  replace hR3 : Row (w1.drewN nq) _ _ _ := hR3
  replace hG1 : Cubes (w1.drewN nq) := ⟨hG1.lt, hG1.cell⟩
  replace hsz1 : w.heap.size + 1 + 1 < (w1.drewN nq).heap.size := hsz1
  generalize w1.drewN nq = w2 at *
  go_upto_region 2 with (fail)
  go_step
  with_reducible refine wpList_loadRow (op := ⟨some 46, .load 27 (.tmp 3), _, _, _, none⟩) rfl 27 (.tmp 3) rfl (w.heap.size + 1) ?_ hR2 Tryd.underlying27 rfl (by rw [size27, u8s_size, HB.out]) ?_
  · rfl
  go_simp
  go_wp2_with (go_at_call 23; (with_reducible refine (words_any b HB.out _).mono ?_); rintro e w3 ⟨rfl, hB3⟩)
  have hR1 := hR1.below hB3 (by omega)
  have hR3 := hR3.below hB3 (by omega)
  have hG3 := hG1.below hB3
  have hBB : Below w.heap.size w w3 := hB1.trans (hB3.mono (by omega))
  have hwl := words_len b
  have hww := words_words b
  have HY : Hid (block hs b = added hs (rnds (words b) s 64).list 8) := by rw [HS.out]; rfl
  generalize words b = ws at *
  clear hG1 hB1 hB3
  go_loop [5, 6, 7, 8, 9, 10, 11, 12, 48] (fun a b c d e f g h i => ∃ n : Nat, n ≤ 64 ∧ i = .int .i64 n ∧ a = .int .u32 ((rnds ws s n).a : Nat) ∧ b = .int .u32 ((rnds ws s n).b : Nat) ∧ c = .int .u32 ((rnds ws s n).c : Nat) ∧ d = .int .u32 ((rnds ws s n).d : Nat) ∧ e = .int .u32 ((rnds ws s n).e : Nat) ∧ f = .int .u32 ((rnds ws s n).f : Nat) ∧ g = .int .u32 ((rnds ws s n).g : Nat) ∧ h = .int .u32 ((rnds ws s n).h : Nat)) (fun _ _ _ _ _ _ _ _ i => 64 - (intOf i).toNat)
  case atStart => exact ⟨0, by omega, rfl, rfl, rfl, rfl, rfl, rfl, rfl, rfl, rfl⟩
  case round =>
    obtain ⟨n, hn, rfl, rfl, rfl, rfl, rfl, rfl, rfl, rfl, rfl⟩ := hrel
    have hro := rnds_ok ws hok n
    by_cases hlt : n < 64
    · have hd : decide ((n : Int) < 64) = true := by simp; omega
      have hb64 : (n : Int) < 64 := by omega
      have HN := Lib.hid (show rnds ws s (n + 1) = rnd (cubes.getD n 0) (ws.getD n 0) (rnds ws s n) from rfl)
      have cG := hG3.cell n hlt
      have hix := fun W => index46 ws hwl n hlt W
      have lk := cubes_words.at n
      have lw := hww.at n
      generalize cubes.getD n 0 = k at *
      generalize ws.getD n 0 = wv at *
      generalize rnds ws s n = r at *
      have e1 := great_bits r.e 6 11 25 hro.e (by omega) (by omega) (by omega)
      have e0 := great_bits r.a 2 13 22 hro.a (by omega) (by omega) (by omega)
      have en := not_u32 r.e hro.e
      have hsg : IntKind.u32.signed = false := rfl
      have ec := choose_bits r.e r.f r.g hro.e hro.f hro.g _ rfl
      have em := major_bits r.a r.b r.c hro.a hro.b hro.c
      have l1 := great1_lt hro.e
      have l0 := great0_lt hro.a
      have lc := choose_lt (f := r.f) (g := r.g) hro.e
      have lm := major_lt (c := r.c) hro.a hro.b
      have o1 : one k wv r = (r.h + great1 r.e + choose r.e r.f r.g + k + wv) % 4294967296 := rfl
      have oa : (rnd k wv r).a = (one k wv r + great0 r.a + major r.a r.b r.c) % 4294967296 := rfl
      have oe : (rnd k wv r).e = (r.d + one k wv r) % 4294967296 := rfl
      have of_ : (rnd k wv r).f = r.e := rfl
      have og : (rnd k wv r).g = r.f := rfl
      have oh : (rnd k wv r).h = r.g := rfl
      have ob : (rnd k wv r).b = r.a := rfl
      have oc : (rnd k wv r).c = r.b := rfl
      have od : (rnd k wv r).d = r.c := rfl
      change _ = ((great1 r.e : Nat) : Int) at e1
      change _ = ((great0 r.a : Nat) : Int) at e0
      generalize great1 r.e = s1 at *
      generalize great0 r.a = s0 at *
      generalize choose r.e r.f r.g = ch at *
      generalize major r.a r.b r.c = mj at *
      generalize one k wv r = t1 at *
      obtain ⟨p1, hp1⟩ : ∃ p, p = (r.h + s1) % 4294967296 := ⟨_, rfl⟩
      obtain ⟨p2, hp2⟩ : ∃ p, p = (p1 + ch) % 4294967296 := ⟨_, rfl⟩
      obtain ⟨p3, hp3⟩ : ∃ p, p = (p2 + k) % 4294967296 := ⟨_, rfl⟩
      obtain ⟨q1, hq1⟩ : ∃ p, p = (t1 + s0) % 4294967296 := ⟨_, rfl⟩
      obtain ⟨a', ha'⟩ : ∃ p, p = (rnd k wv r).a := ⟨_, rfl⟩
      obtain ⟨e', he'⟩ : ∃ p, p = (rnd k wv r).e := ⟨_, rfl⟩
      rw [← ha'] at oa
      rw [← he'] at oe
      have y1 : ((r.h : Int) + (s1 : Int)) % 4294967296 = (p1 : Int) := by omega
      have y2 : ((p1 : Int) + (ch : Int)) % 4294967296 = (p2 : Int) := by omega
      have y3 : ((p2 : Int) + (k : Int)) % 4294967296 = (p3 : Int) := by omega
      have y4 : ((p3 : Int) + (wv : Int)) % 4294967296 = (t1 : Int) := by omega
      have y5 : ((t1 : Int) + (s0 : Int)) % 4294967296 = (q1 : Int) := by omega
      have y6 : ((q1 : Int) + (mj : Int)) % 4294967296 = (a' : Int) := by omega
      have y7 : ((r.d : Int) + (t1 : Int)) % 4294967296 = (e' : Int) := by omega
      have HA := Lib.hid ha'
      have HE := Lib.hid he'
      have HF := Lib.hid (And.intro ob (And.intro oc (And.intro od (And.intro of_ (And.intro og oh)))))
      have la := hro.a
      have le := hro.e
      clear o1 oa oe of_ og oh ob oc od hp1 hp2 hp3 hq1 ha' he' hro
      go_wp2_with (first | (go_at_call 24; (with_reducible refine (right_lit 6 6 (by assumption) rfl (by omega) (by omega) _).mono ?_); rintro e w1 ⟨rfl, rfl⟩) | (go_at_call 24; (with_reducible refine (right_lit 11 11 (by assumption) rfl (by omega) (by omega) _).mono ?_); rintro e w1 ⟨rfl, rfl⟩) | (go_at_call 24; (with_reducible refine (right_lit 25 25 (by assumption) rfl (by omega) (by omega) _).mono ?_); rintro e w1 ⟨rfl, rfl⟩) | (go_at_call 24; (with_reducible refine (right_lit 2 2 (by assumption) rfl (by omega) (by omega) _).mono ?_); rintro e w1 ⟨rfl, rfl⟩) | (go_at_call 24; (with_reducible refine (right_lit 13 13 (by assumption) rfl (by omega) (by omega) _).mono ?_); rintro e w1 ⟨rfl, rfl⟩) | (go_at_call 24; (with_reducible refine (right_lit 22 22 (by assumption) rfl (by omega) (by omega) _).mono ?_); rintro e w1 ⟨rfl, rfl⟩))
      go_round
      case rel =>
        obtain ⟨ob, oc, od, of_, og, oh⟩ := HF.out
        exact ⟨n + 1, by omega, by go_num, by rw [HN.out, ← HA.out]; exact int_u32 y6, by rw [HN.out, ob], by rw [HN.out, oc], by rw [HN.out, od], by rw [HN.out, ← HE.out]; exact int_u32 y7, by rw [HN.out, of_], by rw [HN.out, og], by rw [HN.out, oh]⟩
      case measure => simp [intOf]; omega
    · have hn9 : n = 64 := by omega
      subst hn9
      clear hn hlt
      obtain ⟨r, hr⟩ : ∃ r, r = rnds ws s 64 := ⟨_, rfl⟩
      rw [← hr] at hro HY ⊢
      clear hr hww hwl
      have hrl : r.list.length = 8 := rfl
      have hrw := St.list_words hro
      obtain ⟨v, hv⟩ : ∃ v, v = r.list := ⟨_, rfl⟩
      rw [← hv] at hrl hrw HY
      have HV := Lib.hid hv
      clear hv
      go_wp2_with fail
      go_loopw [122] (fun i wr => ∃ n : Nat, n ≤ 8 ∧ i = .int .i64 n ∧ Below w.heap.size w wr ∧ Row wr w.heap.size 29 (u32s (added hs v n)) ∧ Row wr (w.heap.size + 1 + 1) 29 (u32s z8)) (fun i _ => 8 - (intOf i).toNat)
      case atStart => exact ⟨0, by omega, rfl, hBB, hR1, hR3⟩
      case round =>
        clear hBB hR1 hR3
        obtain ⟨n, hn, rfl, hBB, hR1, hR3⟩ := hrel
        by_cases hlt : n < 8
        · have hd : decide ((n : Int) < 8) = true := by simp; omega
          have hb8 : (n : Int) < 8 := by omega
          have hix : ∀ W, (Instr.index 26 (.agg #[.int .u32 ((r.a : Nat) : Int), .int .u32 ((r.b : Nat) : Int), .int .u32 ((r.c : Nat) : Int), .int .u32 ((r.d : Nat) : Int), .int .u32 ((r.e : Nat) : Int), .int .u32 ((r.f : Nat) : Int), .int .u32 ((r.g : Nat) : Int), .int .u32 ((r.h : Nat) : Int)]) (.int .i64 (n : Int))).run Tryd.prog W = .ok (.int .u32 ((v.getD n 0 : Nat) : Int)) W := fun W => by
            rw [HV.out]; exact index26 r.list rfl n hlt W
          have c1 := hR1.word n (by rw [added_len, HH.out]; omega)
          have hf := hR1.frozen n
          have HN := Lib.hid (show added hs v (n + 1) = (added hs v n).set n (((added hs v n).getD n 0 + v.getD n 0) % 4294967296) from rfl)
          have la := (added_words HW.out v n).at n
          have lv := hrw.at n
          generalize added hs v n = l at *
          generalize l.getD n 0 = x at *
          generalize v.getD n 0 = y at *
          obtain ⟨z, hz9⟩ : ∃ z, z = (x + y) % 4294967296 := ⟨_, rfl⟩
          have y1 : ((x : Int) + (y : Int)) % 4294967296 = (z : Int) := by omega
          rw [← hz9] at HN
          clear hz9
          go_wp2_with fail
          go_roundw
          case rel => exact ⟨n + 1, by omega, by go_num, hBB.setCell (p := ⟨w.heap.size, n, none⟩) (Nat.le_refl _) _, by rw [HN.out]; exact hR1.set32 n z, hR3.apart (by omega) _ _⟩
          case measure => simp [intOf]; omega
        · have hn9 : n = 8 := by omega
          subst hn9
          clear hn hlt
          rw [← HY.out] at hR1
          have hlen : (block hs b).length = 8 := by rw [block_len, HH.out]
          obtain ⟨ws, hws⟩ : ∃ ws, ws = u32s (block hs b) := ⟨_, rfl⟩
          have hln : 8 = (u32s (block hs b)).size := by rw [u32s_size, hlen]
          have h1 := u32s_one (block hs b)
          rw [← hws] at hR1 hln h1
          have HW9 := Lib.hid hws
          have HI := Lib.hid (show (Tryd.prog.info? 29).map (·.size) = some ws.size by rw [size29, hln])
          have HO := Lib.hid (show (u32s z8).size = ws.size by rw [← hln]; rfl)
          have H1 := Lib.hid h1
          have hB2 := below_setRow hBB (g := w.heap.size + 1 + 1) (by omega) ws
          have hR := hR3.put ws
          clear hws hln h1
          go_upto_region 17 with (fail)
          go_step
          with_reducible refine wpList_loadRow (op := ⟨some 135, .load 29 (.tmp 2), _, _, _, none⟩) rfl 29 (.tmp 2) rfl w.heap.size ?_ hR1 Tryd.underlying29 rfl HI.out ?_
          · rfl
          go_simp
          with_reducible refine wpList_storeRow (op := ⟨none, .store 29 (.tmp 4) (.tmp 135), _, _, _, none⟩) rfl 29 (.tmp 4) (.tmp 135) rfl (w.heap.size + 1 + 1) ?_ (cs := ws) ?_ hR3 HI.out HO.out H1.out ?_
          · rfl
          · rfl
          go_simp
          go_wp2_with fail
          exact bodyPost_ret (v := .agg ws) (results_row rfl rfl hR Tryd.underlying29 rfl HI.out) rfl ⟨by rw [HW9.out], hB2⟩

end Go.Proofs.YtidkakjghimimaaDoor.Sha
