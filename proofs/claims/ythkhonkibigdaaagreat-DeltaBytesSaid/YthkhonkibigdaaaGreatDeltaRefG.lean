/-
  The reference of deltas, walked: may one be put; its bytes.
-/
import Derived.Test.YthkhonkibigdaaaGreatDeltaRefA
import Derived.Test.YthkhonkibigdaaaGreatCodeG
import Derived.Deep.RegionHeld3
import Derived.Deep.DrawnRows
namespace Go.Proofs.YthkhonkibigdaaaGreat.Delta
open Go.RowKit Leb Mem Wire _root_.Go.Proofs.YthkhonkibigdaaaGreat.Arena _root_.Go.Proofs.YthkhonkibigdaaaGreat.Kinds _root_.Go.Proofs.YthkhonkibigdaaaGreat.Code
set_option linter.unusedVariables false
attribute [local go_sem ↓] Go.wp_at_zero Go.wp_at_succ

def rightB (p : List Int) (op : Int) : Bool := p.all (fun k => bt k 0 199) && (decide (p.length ≤ 30) && bt op 1 7)
theorem right_iff {p : List Int} {op : Int} : rightB p op = true ↔ Right p op := by
  unfold rightB bt
  rw [Bool.and_eq_true, Bool.and_eq_true, List.all_eq_true]
  simp only [decide_eq_true_eq]
  constructor
  · rintro ⟨h1, h2, h3⟩
    exact ⟨h2, h1, h3.1, h3.2⟩
  · rintro ⟨h1, h2, h3, h4⟩
    exact ⟨h2, h1, h3, h4⟩
theorem all_snoc (p : List Int) (k : Nat) (x : Int) (h : p[k]? = some x) (f : Int → Bool) : (p.take (k + 1)).all f = ((p.take k).all f && f x) := by
  rw [List.take_add_one, h]; simp

set_option maxRecDepth 100000 in
set_option maxHeartbeats 1000000 in
theorem ref_Right_any (d : Dlt) (w : World) (hd : d.Ok w) :
    Calls Tryz.prog 28 #[.agg #[.slice d.A d.p.length d.c, .int .i64 d.op, .int .i64 d.n]] w fun e w' => e = .returned (.bool (rightB d.p d.op)) ∧ Below w.heap.size w w' := by
  obtain ⟨A, c, p, op, n⟩ := d
  obtain ⟨h1, hlen, -, -⟩ := hd
  simp only at *
  have hB0 : Below w.heap.size w (w.alloc (.cells #[.slice A p.length c, .int .i64 op, .int .i64 n] 24)) := (Below.refl _ _).alloc (Nat.le_refl _) _
  obtain ⟨d0, d1, d2⟩ := (Blk.new w 24 #[.slice A p.length c, .int .i64 op, .int .i64 n]).three
  have HX := Lib.hid (h1.below hB0)
  have HBT := Lib.hid (fun n lo hi W => ref_between_any n lo hi W)
  clear h1
  go_enter Tryz.func28, Tryz.ntmps28
  go_wp2
  generalize w.alloc (.cells #[.slice A p.length c, .int .i64 op, .int .i64 n] 24) = w1 at *
  go_loopw [3] (fun i wr => ∃ k : Nat, k ≤ p.length ∧ i = .int .i64 k ∧ (p.take k).all (fun k => bt k 0 199) = true ∧ wr = w1) (fun i _ => p.length - (intOf i).toNat)
  case atStart => exact ⟨0, by omega, rfl, rfl, rfl⟩
  case round =>
    obtain ⟨k, hk, rfl, hg, rfl⟩ := hrel
    by_cases hlt : k < p.length
    · obtain ⟨x, hxk⟩ : ∃ x, p[k]? = some x := ⟨_, List.getElem?_eq_getElem hlt⟩
      obtain ⟨ad, rfl, hb, g0⟩ := HX.out k _ hxk
      have HS := Lib.hid (all_snoc p k x hxk (fun k => bt k 0 199))
      have j1 : (k : Int) < (p.length : Int) := by omega
      have j2 : (0 : Int) ≤ (k : Int) := by omega
      have HB := Lib.hid (HBT.out x 0 199 wr)
      cases hbx : bt x 0 199 with
      | true =>
        rw [hbx] at HB
        rw [hg, hbx] at HS
        clear hxk hg hbx
        go_wp2_with (go_at_call 56; refine HB.out.mono ?_; rintro e w2 ⟨rfl, rfl⟩)
        go_roundw
        case rel => exact ⟨k + 1, by omega, by go_num, by rw [HS.out]; rfl, (by first | rfl | trivial)⟩
        case measure => simp [intOf]; omega
      | false =>
        rw [hbx] at HB
        have HE := Lib.hid (show rightB p op = false by
          unfold rightB
          have : p.all (fun k => bt k 0 199) = false := by
            rw [Bool.eq_false_iff]
            intro q
            rw [List.all_eq_true] at q
            have := q x (List.mem_of_getElem? hxk)
            rw [hbx] at this
            cases this
          rw [this]; rfl)
        clear hxk hg hbx
        go_wp2_with (go_at_call 56; refine HB.out.mono ?_; rintro e w2 ⟨rfl, rfl⟩)
        go_ret
        exact ⟨by rw [HE.out]; rfl, hB0⟩
    · have hk9 : k = p.length := by omega
      subst hk9
      rw [List.take_length] at hg
      have j1 : ¬ (p.length : Int) < (p.length : Int) := by omega
      have HR := Lib.hid (show rightB p op = (decide (p.length ≤ 30) && bt op 1 7) by unfold rightB; rw [hg, Bool.true_and])
      have HB := Lib.hid (HBT.out op 1 7 wr)
      by_cases h30 : p.length ≤ 30
      · have j3 : (p.length : Int) ≤ 30 := by omega
        rw [decide_eq_true h30, Bool.true_and] at HR
        clear hg
        go_wp2_with (go_at_call 56; refine HB.out.mono ?_; rintro e w2 ⟨rfl, rfl⟩)
        go_ret
        exact ⟨by rw [HR.out]; rfl, hB0⟩
      · have j3 : ¬ (p.length : Int) ≤ 30 := by omega
        rw [decide_eq_false h30, Bool.false_and] at HR
        clear hg
        go_wp2_with (go_at_call 56; refine HB.out.mono ?_; rintro e w2 ⟨rfl, rfl⟩)
        go_ret
        exact ⟨by rw [HR.out]; rfl, hB0⟩

set_option maxRecDepth 100000 in
theorem ref_DPut_bad (d : Dlt) (w : World) (hd : d.Ok w) (hr : ¬ Right d.p d.op) :
    Calls Tryz.prog 8 #[.agg #[.slice d.A d.p.length d.c, .int .i64 d.op, .int .i64 d.n]] w fun e w' => e = .returned (.tuple #[.string ⟨#[]⟩, .int .i64 17]) ∧ Below w.heap.size w w' := by
  have hB0 : Below w.heap.size w (w.alloc (.cells #[.slice d.A d.p.length d.c, .int .i64 d.op, .int .i64 d.n] 24)) := (Below.refl _ _).alloc (Nat.le_refl _) _
  obtain ⟨d0, d1, d2⟩ := (Blk.new w 24 #[.slice d.A d.p.length d.c, .int .i64 d.op, .int .i64 d.n]).three
  have HR := Lib.hid (ref_Right_any d _ (hd.at hB0))
  rw [show rightB d.p d.op = false by rw [Bool.eq_false_iff]; exact fun q => hr (right_iff.1 q)] at HR
  clear hd hr
  go_enter Tryz.func8, Tryz.ntmps8
  go_wp2_with (go_at_call 28; refine HR.out.mono ?_; rintro e w1 ⟨rfl, hb1⟩)
  go_ret2
  exact ⟨rfl, hB0.trans (hb1.mono hB0.size)⟩

theorem path_snoc (p : List Int) (k : Nat) (x : Int) (h : p[k]? = some x) : pathb (p.take (k + 1)) = pathb (p.take k) ++ lput x.toNat := by
  unfold pathb
  rw [List.take_add_one, h]; simp
theorem path_len {p : List Int} (hp : ∀ k ∈ p, 0 ≤ k ∧ k ≤ 199) : (pathb p).length ≤ 10 * p.length := by
  induction p with
  | nil => simp [pathb]
  | cons x p ih =>
    have h := ih (fun k hk => hp k (List.mem_cons_of_mem _ hk))
    have := lput_len10 (n := x.toNat) (by have := hp x (List.mem_cons_self ..); omega)
    unfold pathb at *
    rw [List.flatMap_cons, List.length_append, List.length_cons]
    omega

set_option maxRecDepth 100000 in
set_option maxHeartbeats 4000000 in
theorem ref_DPut_good (d : Dlt) (w : World) (hd : d.Ok w) (hr : Right d.p d.op) (hn : N64 d.n) :
    Calls Tryz.prog 8 #[.agg #[.slice d.A d.p.length d.c, .int .i64 d.op, .int .i64 d.n]] w fun e w' => e = .returned (.tuple #[.string ⟨(dput d.p d.op d.n).toArray⟩, .int .i64 0]) ∧ Below w.heap.size w w' := by
  obtain ⟨A, c, p, op, n⟩ := d
  simp only at *
  have hB0 : Below w.heap.size w (w.alloc (.cells #[.slice A p.length c, .int .i64 op, .int .i64 n] 24)) := (Below.refl _ _).alloc (Nat.le_refl _) _
  have bX := Blk.new w 24 #[.slice A p.length c, .int .i64 op, .int .i64 n]
  have HR := Lib.hid (show ∀ W, Dlt.Ok ⟨A, c, p, op, n⟩ W → Calls Tryz.prog 28 #[.agg #[.slice A p.length c, .int .i64 op, .int .i64 n]] W (fun e w' => e = .returned (.bool true) ∧ Below W.heap.size W w') from fun W h => by
    have q := ref_Right_any ⟨A, c, p, op, n⟩ W h
    rw [show rightB (Dlt.p ⟨A, c, p, op, n⟩) (Dlt.op ⟨A, c, p, op, n⟩) = true from right_iff.2 hr] at q
    exact q)
  have hd1 := hd.at hB0
  obtain ⟨w1, hw1⟩ : ∃ w1, w.alloc (.cells #[.slice A p.length c, .int .i64 op, .int .i64 n] 24) = w1 := ⟨_, rfl⟩
  rw [hw1] at hB0 bX hd1
  have HW1 := Lib.hid hw1
  have hgl := bX.lt
  have HBX := Lib.hid (fun W (h : Below w1.heap.size w1 W) => (bX.below h hgl).three)
  have HD := Lib.hid hd1
  have r1 := hr.len
  have H1 := Lib.hid (fun W => ref_put_any (p.length : Int) (by omega) (by omega) W)
  rw [Int.toNat_natCast] at H1
  have HK := Lib.hid (fun x (hx : x ∈ p) W => ref_put_any x (hr.rng x hx).1 (by have := (hr.rng x hx).2; omega) W)
  have HKR := Lib.hid hr.rng
  have HPL := Lib.hid (fun k => show (pathb (p.take k)).length ≤ 300 by
    have := path_len (p := p.take k) (fun x hx => hr.rng x (List.mem_of_mem_take hx))
    rw [List.length_take] at this
    omega)
  have u2 : IntKind.u64.wrap (p.length : Int) = p.length := wrap_u64_of (by omega) (by omega)
  have l1 := lput_len10 (n := p.length) (by omega)
  have HZ := Lib.hid (fun W => Zig.ref_Put_any n hn.1 hn.2 W)
  have o0 := hr.op0
  have o1 := hr.op1
  obtain ⟨d0, d1, d2⟩ := HBX.out _ (Below.refl _ _)
  clear hd hd1 hw1 hr
  go_enter Tryz.func8, Tryz.ntmps8
  go_wp2_with (first
    | (go_at_call 28; rw [HW1.out]; refine (HR.out _ HD.out).mono ?_; rintro e w2 ⟨rfl, hb2⟩; obtain ⟨d0, d1, d2⟩ := HBX.out _ hb2)
    | (go_at_call 29; refine (H1.out _).mono ?_; rintro e w3 ⟨rfl, hb⟩; have hb3 := hb2.trans (hb.mono hb2.size)))
  go_loopw [4, 5] (fun s i wr => ∃ k : Nat, k ≤ p.length ∧ i = .int .i64 k ∧ s = .string ⟨(lput p.length ++ pathb (p.take k)).toArray⟩ ∧ Below w1.heap.size w1 wr) (fun _ i _ => p.length - (intOf i).toNat)
  case atStart => exact ⟨0, by omega, rfl, by simp [pathb], hb3⟩
  case round =>
    obtain ⟨k, hk, rfl, rfl, hB⟩ := hrel
    obtain ⟨d0, d1, d2⟩ := HBX.out _ hB
    have hpl := HPL.out k
    by_cases hlt : k < p.length
    · obtain ⟨x, hxk⟩ : ∃ x, p[k]? = some x := ⟨_, List.getElem?_eq_getElem hlt⟩
      obtain ⟨ad, hA, hbk, g0⟩ := (HD.out.at hB).path k x hxk
      simp only at hA
      subst hA
      have hm := List.mem_of_getElem? hxk
      have hr := HKR.out x hm
      have HS := Lib.hid (path_snoc p k x hxk)
      have HBY := Lib.hid (HK.out x hm)
      have l2 := lput_len10 (n := x.toNat) (by omega)
      have u3 : IntKind.u64.wrap x = x := wrap_u64_of hr.1 (by omega)
      have j1 : (k : Int) < (p.length : Int) := by omega
      have j2 : (0 : Int) ≤ (k : Int) := by omega
      clear hxk hr hm
      generalize hL : lput p.length ++ pathb (p.take k) = L at *
      have hz1 : (⟨L.toArray⟩ : ByteArray).size ≤ 400 := by rw [cstr_size, ← hL, List.length_append]; omega
      have hz2 : (⟨(lput x.toNat).toArray⟩ : ByteArray).size ≤ 10 := by rw [cstr_size]; exact l2
      have HL := Lib.hid hL
      clear hL hpl
      go_wp2_with (go_at_call 29; refine (HBY.out _).mono ?_; rintro e w4 ⟨rfl, hb⟩; have hb4 := hB.trans (hb.mono hB.size))
      go_roundw
      case rel => exact ⟨k + 1, by omega, by go_num, by rw [HS.out, ← List.append_assoc, HL.out, ← cstr_app], hb4⟩
      case measure => simp [intOf]; omega
    · have hk9 : k = p.length := by omega
      subst hk9
      rw [List.take_length] at hpl ⊢
      have j1 : ¬ (p.length : Int) < (p.length : Int) := by omega
      obtain ⟨L, hL⟩ : ∃ L, lput p.length ++ pathb p = L := ⟨_, rfl⟩
      rw [hL]
      have hz1 : (⟨L.toArray⟩ : ByteArray).size ≤ 400 := by rw [cstr_size, ← hL, List.length_append]; omega
      have HE := Lib.hid (show dput p op n = (L ++ [tb op]) ++ Zig.zput n by rw [← hL]; unfold dput Zig.zput; simp)
      have hzr := Zig.zig_range hn.1 hn.2
      have l4 : (⟨(Zig.zput n).toArray⟩ : ByteArray).size ≤ 10 := by rw [cstr_size]; exact lput_len10 (n := (Zig.zig n).toNat) (by omega)
      have u8 : IntKind.u8.wrap op = op := by rw [IntKind.wrap_u8]; omega
      have kc := conv_one (P := Tryz.prog) 58 5 Tryz.underlying58 Tryz.underlying5 op 9 Tryz.underlying9
      have hz5 : (⟨#[UInt8.ofNat op.toNat]⟩ : ByteArray).size = 1 := rfl
      have hq1 := fun W => run_string_add_sum (P := Tryz.prog) W (⟨L.toArray⟩ : ByteArray) (⟨#[UInt8.ofNat op.toNat]⟩ : ByteArray) (by omega)
      have hq2 := fun W => run_string_add_sum (P := Tryz.prog) W ((⟨L.toArray⟩ : ByteArray) ++ (⟨#[UInt8.ofNat op.toNat]⟩ : ByteArray)) (⟨(Zig.zput n).toArray⟩ : ByteArray) (by rw [ByteArray.size_append]; omega)
      clear hL hpl HPL
      have hC := And.intro d0 (And.intro d1 d2)
      have hBA := hB.alloc hB.size (.cells #[.int .u8 op] 5)
      have hCA := HBX.out _ hBA
      have HZA := Lib.hid (HZ.out (wr.alloc (.cells #[.int .u8 op] 5)).drew)
      have HZB := Lib.hid (HZ.out wr.drew)
      go_wp2_with fail
      go_region_with (first
        | (go_at_call 30; (with_reducible refine HZA.out.mono ?_); rintro e w5 ⟨rfl, hb⟩; have hb5 := hBA.drew.trans (hb.mono hBA.size); obtain ⟨d0, d1, d2⟩ := HBX.out _ hb5; have bB5 := (Blk.drew (Blk.new wr 5 #[.int .u8 op])).below hb (Blk.new wr 5 #[.int .u8 op]).lt; have cb5 := bB5.cell 0)
        | (go_at_call 30; (with_reducible refine HZB.out.mono ?_); rintro e w5 ⟨rfl, hb⟩; have hb5 := hB.drew.trans (hb.mono hB.size); obtain ⟨d0, d1, d2⟩ := HBX.out _ hb5)
        | fail)
      all_goals go_wp2_with fail
      all_goals go_ret2
      all_goals first
        | exact ⟨by rw [HE.out, ← cstr_app, ← cstr_app]; rfl, hB0.trans (hb5.mono hB0.size)⟩
        | exact ⟨by rw [HE.out, ← cstr_app, ← cstr_app]; rfl, hB0.trans ((hb5.alloc hb5.size _).mono hB0.size)⟩

end Go.Proofs.YthkhonkibigdaaaGreat.Delta
