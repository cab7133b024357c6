/-
  Package path, walked: the node of a path.
-/
import Derived.Test.YtjjdpjdmeeholaaPathPKids
import Derived.LoopIn
namespace Go.Proofs.Ytjjdpjdmeeholaa.Path
open Go.RowKit Go.Shelf Mem _root_.Go.Proofs.Ytjjdpjdmeeholaa.Arena _root_.Go.Proofs.Ytjjdpjdmeeholaa.RangeO
set_option linter.unusedVariables false

attribute [local go_sem] Oper.semAt_some

set_option maxRecDepth 100000 in
theorem kids_any (A : Option Addr) (k cap : Nat) (a : Int) (w : World) : Calls Try.prog 22 #[.slice A k cap, .int .i64 a] w fun e w' => e = .returned (.func (.func 28) #[] #[.pointer (some ⟨w.heap.size + 1, 0, none⟩), .pointer (some ⟨w.heap.size, 0, none⟩)]) ∧ w' = (w.alloc (.cells #[.slice A k cap] 22)).alloc (.cells #[.int .i64 a] 3) := by
  go_enter Try.func22, Try.ntmps22
  go_wp2
  go_ret
  exact ⟨rfl, rfl⟩

theorem krow_last {xs : List Nd} {a x q : Int} {pre : List (Int × Int)} (h : pre ++ [(x, q)] <+: krow xs a) : ∃ j : Nat, j < (akids xs a).length ∧ x = (j : Int) ∧ q = kid xs a j := by
  obtain ⟨r, hr⟩ := h
  have h1 : (krow xs a)[pre.length]? = some (x, q) := by rw [← hr]; simp
  have hj : pre.length < (akids xs a).length := by
    have := (List.getElem?_eq_some_iff.1 h1).1
    rwa [krow_len] at this
  rw [krow_get hj] at h1
  have e := Option.some.inj h1
  rw [Prod.mk.injEq] at e
  exact ⟨pre.length, hj, e.1.symm, e.2.symm⟩
theorem krow_no {xs : List Nd} {a x : Int} (h : ∀ q ∈ krow xs a, q.1 ≠ x) : x < 0 ∨ ((akids xs a).length : Int) ≤ x := by
  rcases Int.lt_or_le x 0 with q | q
  · exact .inl q
  · obtain ⟨j, rfl⟩ := Int.eq_ofNat_of_zero_le q
    refine .inr ?_
    rcases Nat.lt_or_ge j (akids xs a).length with hj | hj
    · exact absurd rfl (h _ (List.mem_of_getElem? (krow_get hj)))
    · omega
theorem fold_told3 (t : Array Value) (x : Int × Int) : Array.foldl (fun t (x : Nat × Value) => t.setIfInBounds x.1 x.2) t ((#[22, 23] : Array Nat).zip (told x)) = (t.setIfInBounds 22 (.int .i64 x.1)).setIfInBounds 23 (.int .i64 x.2) := by
  simp [told]

set_option maxRecDepth 100000 in
set_option maxHeartbeats 4000000 in
theorem Find_whole (A : Option Addr) (cap : Nat) (xs : List Nd) (A' : Option Addr) (c' : Nat) (p : List Int) (w : World) (hx : Nodes w w.heap.size A xs) (hl : xs.length ≤ 1000000) (hy : IRow w w.heap.size A' p) (hp : p.length ≤ 1000000) (hw : Whole xs) :
    CallsIn Fence.wide 4 Try.prog 12 #[.slice A xs.length cap, .slice A' p.length c'] w fun e w' => e = .returned (.int .i64 (down xs p 0)) ∧ Below w.heap.size w w' := by
  have HE := Lib.hid (fun W hW => whole_any A cap xs W hW hl)
  rw [show (aend xs 0 == (xs.length : Int)) = true by rw [show aend xs 0 = xs.length from hw]; simp] at HE
  have HW := Lib.hid hw.t
  have HX := Lib.hid hx
  have HY := Lib.hid hy
  have hf1 : Fence.wide.fn 18 := trivial
  have hf2 : Fence.wide.fn 22 := trivial
  clear hw hx hy
  refine callsIn_of_wp_marks Try.func12 rfl trivial ?_ rfl
  simp only [Try.ntmps12, List.size_toArray, List.length_cons, List.length_nil, Nat.reduceAdd, Nat.reduceSub, Array.replicate_succ, Array.replicate_zero, List.push_toArray, List.append_toArray, List.nil_append, List.cons_append]
  gi_wp2
  refine _root_.Go.Proofs.Ytjjdpjdmeeholaa.Jumps.wpIn_scope_jumps 0 (fun _ _ => False) (fun _ _ => 0) rfl ?_ (fun _ _ h => h.elim)
  gi_wp2_with (gi_at_call 18; refine ((callsIn_wide (n := 3)).2 (HE.out _ HX.out)).mono ?_; rintro e w1 ⟨rfl, hb1⟩)
  refine wpIn_label ?_
  simp only [Exit.then]
  gi_wp2
  have bR := Blk.new w1 3 #[.int .i64 0]
  have hB2 := hb1.alloc hb1.size (.cells #[.int .i64 0] 3)
  have hR := bR.lt
  have hwR := hb1.size
  generalize w1.alloc (.cells #[.int .i64 0] 3) = w2 at *
  clear HE hb1
  refine wpIn_loop (fun a' wr => ∃ (k b n : Nat) (ds : List Deferred) (u6 u7 u8 u9 u16 u17 u18 u19 u20 u21 u22 u23 u24 u25 u26 u27 u28 u29 : Value),
      a' = { tmps := #[.slice A xs.length cap, .slice A' p.length c', undef, undef, .int .i64 0, .pointer (some ⟨w1.heap.size, 0, none⟩), u6, u7, u8, u9, .slice A xs.length cap, .bool true, .bool false, .slice A' p.length c', .int .i64 p.length, .int .i64 k, u16, u17, u18, u19, u20, u21, u22, u23, u24, u25, u26, u27, u28, u29], defers := ds } ∧
      k ≤ p.length ∧ T xs b n ∧ down xs p 0 = down xs (p.drop k) b ∧ Blk wr w1.heap.size 3 #[.int .i64 b] ∧ Below w.heap.size w wr ∧ Marks w.heap.size wr ds) (fun a' _ => p.length - (intOf (a'.tmps.getD 15 undef)).toNat) ?_ ?_
  · exact ⟨0, 0, xs.length, [], _, _, _, _, _, _, _, _, _, _, _, _, _, _, _, _, _, _, rfl, by omega, HW.out, by rw [List.drop_zero]; rfl, bR, hB2, trivial⟩
  clear bR hB2 hR
  rintro a' wr ⟨k, b, n, ds, u6, u7, u8, u9, u16, u17, u18, u19, u20, u21, u22, u23, u24, u25, u26, u27, u28, u29, rfl, hk, ht, hd, bR, hB, hM⟩
  by_cases hlt : k < p.length
  · have i1 : (k : Int) < (p.length : Int) := by omega
    have i2 : (0 : Int) ≤ (k : Int) := by omega
    obtain ⟨x, hxk⟩ : ∃ x, p[k]? = some x := ⟨_, List.getElem?_eq_getElem hlt⟩
    obtain ⟨ad, hA', hb', g0⟩ := (IRow.below HY.out hB) k _ hxk
    rw [drop_at hxk] at hd
    have HD := Lib.hid hd
    have HT := Lib.hid ht
    have HB := Lib.hid hB
    have HM := Lib.hid hM
    have cR := bR.cell 0
    have hR := bR.lt
    have HR := Lib.hid bR
    subst hA'
    clear hd ht hxk hB hM bR
    gi_wp2_with (gi_at_call 22; refine ((callsIn_wide (n := 3)).2 (kids_any A xs.length cap b _)).mono ?_; rintro e w' ⟨rfl, rfl⟩)
    have hs4 : (((wr.alloc (.cells #[.int .i64 x] 3)).alloc (.cells #[.slice A xs.length cap] 22)).alloc (.cells #[.int .i64 b] 3)).heap.size = wr.heap.size + 3 := by simp
    have bN := ((Blk.new wr 3 #[.int .i64 x]).alloc (.cells #[.slice A xs.length cap] 22)).alloc (.cells #[.int .i64 b] 3)
    have bL := (Blk.new (wr.alloc (.cells #[.int .i64 x] 3)) 22 #[.slice A xs.length cap]).alloc (.cells #[.int .i64 b] 3)
    have bA := Blk.new ((wr.alloc (.cells #[.int .i64 x] 3)).alloc (.cells #[.slice A xs.length cap] 22)) 3 #[.int .i64 b]
    rw [World.size_alloc] at bL bA
    rw [World.size_alloc] at bA
    have b4 : Below wr.heap.size wr (((wr.alloc (.cells #[.int .i64 x] 3)).alloc (.cells #[.slice A xs.length cap] 22)).alloc (.cells #[.int .i64 b] 3)) := (((Below.refl _ _).alloc (Nat.le_refl _) _).alloc (by simp) _).alloc (by simp; omega) _
    have hB4 := HB.out.trans (b4.mono HB.out.size)
    have bR4 := HR.out.below b4 hR
    have hx4 := (HX.out).below hB4
    have hM4 := HM.out.keep (w' := _) (fun r hr _ => (b4.block r (Array.getElem?_eq_some_iff.1 hr).1).trans hr)
    generalize (((wr.alloc (.cells #[.int .i64 x] 3)).alloc (.cells #[.slice A xs.length cap] 22)).alloc (.cells #[.int .i64 b] 3)) = w4 at *
    have hML : ∀ d ∈ ds, ∀ r, d = { target := .collected r, args := #[] } → r < w4.heap.size := fun d hd r e => (Array.getElem?_eq_some_iff.1 (hM4.mem d hd r e)).1
    have hsz4 := hB4.size
    have hle4 : wr.heap.size + 3 ≤ w4.heap.size := by omega
    clear hs4 b4
    have hOF : ∀ (Pr : List (Int × Int) → Int → Prop), OwnFrom w4.heap.size (fun (pre : List (Int × Int)) W => ∃ v : Int, Pr pre v ∧ Blk W w1.heap.size 3 #[.int .i64 v] ∧ Blk W wr.heap.size 3 #[.int .i64 x] ∧ Below w.heap.size w W ∧ Marks w.heap.size W ds) := by
      rintro Pr s W W' row ⟨v, h1, h2, h3, h4, h5⟩ hg hr
      exact ⟨v, h1, h2.grown hg (fun e => by have := (hr _ e.symm).1; omega), h3.grown hg (fun e => by have := (hr _ e.symm).1; omega), h4.grown hg h4.size (fun i e => by have := (hr _ e).1; omega),
        h5.keep (fun r h ⟨d, hd, e⟩ => (hg.block r (Array.getElem?_eq_some_iff.1 h).1 (fun q => by have := (hr _ q.symm).1; have := hML d hd r e; omega)).trans h)⟩
    refine wpIn_rangeFunc_ownG rfl (by omega) (gf := 28) (lb := #[.pointer (some ⟨wr.heap.size + 1 + 1, 0, none⟩), .pointer (some ⟨wr.heap.size + 1, 0, none⟩)]) rfl trivial (enters_of Try.func28 (by kernel_rfl) rfl)
      (kids1_stops (wr.heap.size + 1) (wr.heap.size + 1 + 1) w.heap.size A cap xs b n w4 hl HT.out hx4 hsz4 (by omega) (by omega) (bL.cell 0) (bA.cell 0)) (fun h k => belowK_t h k) (belowK_b (Nat.le_refl _)) (Below.refl _ _) (fun _ => rfl)
      (fun (pre : List (Int × Int)) W => ∃ v : Int, (v = b ∧ ∀ q ∈ pre, q.1 ≠ x) ∧ Blk W w1.heap.size 3 #[.int .i64 v] ∧ Blk W wr.heap.size 3 #[.int .i64 x] ∧ Below w.heap.size w W ∧ Marks w.heap.size W ds)
      (fun c pre W => ∃ v : Int, (c = .exit 1 ∧ ∃ pre', pre = pre' ++ [(x, v)]) ∧ Blk W w1.heap.size 3 #[.int .i64 v] ∧ Blk W wr.heap.size 3 #[.int .i64 x] ∧ Below w.heap.size w W ∧ Marks w.heap.size W ds)
      (hOF (fun pre v => v = b ∧ ∀ q ∈ pre, q.1 ≠ x)) (fun c => hOF (fun pre v => c = .exit 1 ∧ ∃ pre', pre = pre' ++ [(x, v)]))
      ⟨b, ⟨rfl, fun p hp => by cases hp⟩, bR4, bN, hB4, hM4⟩
      (fun y => { tmps := #[.slice A xs.length cap, .slice (some ad) p.length c', undef, undef, .int .i64 0, .pointer (some ⟨w1.heap.size, 0, none⟩), u6, .pointer (some ⟨wr.heap.size, 0, none⟩), .int .i64 y.1, .int .i64 y.2, .slice A xs.length cap, .bool true, .bool false, .slice (some ad) p.length c', .int .i64 p.length, .int .i64 k, .bool true, .pointer (some (ad.add k)), .int .i64 x, .slice A xs.length cap, .int .i64 b, .func (.func 28) #[] #[.pointer (some ⟨wr.heap.size + 1 + 1, 0, none⟩), .pointer (some ⟨wr.heap.size + 1, 0, none⟩)], .int .i64 y.1, .int .i64 y.2, u24, u25, u26, u27, u28, u29], defers := [] }) ?assign ?body ?done ?stop
    case assign =>
      intro l y W K hK
      rw [fold_told3]
      simp only [List.setIfInBounds_toArray, List.set_cons_succ, List.set_cons_zero]
      gi_wp2
      exact hK
    case body =>
      rintro l pre y W ⟨v, ⟨rfl, hp⟩, bR, bN, hB, hM⟩ hlt
      have cN := bN.cell 0
      have cR := bR.cell 0
      have fR := bR.frozen 0
      by_cases h0 : y.1 = x
      · have h0' : (y.1 == x) = true := by rw [h0]; simp
        obtain ⟨y1, y2⟩ := y
        simp only at h0 h0'
        subst h0
        gi_wp2
        refine ⟨⟨by simp [World.setCell], fun k o hk ho _ => (Below.heap_setCell _ _ _ _ (fun e => by simp at e; omega)).trans ho⟩, y2, ⟨rfl, pre, rfl⟩, bR.set 0 _, bN.apart (p := ⟨w1.heap.size, 0, none⟩) (by show wr.heap.size ≠ w1.heap.size; omega) _, hB.setCell (p := ⟨w1.heap.size, 0, none⟩) hwR _, hM.keep (fun r h _ => (Below.heap_setCell _ ⟨w1.heap.size, 0, none⟩ _ _ (fun e => ?_)).trans h)⟩
        have e' : r = w1.heap.size := e
        subst e'
        unfold Blk at bR
        rw [bR] at h
        cases h
      · have h0' : (y.1 == x) = false := by rw [beq_eq_false_iff_ne]; exact h0
        gi_wp2
        refine ⟨KeepsFrom.refl _ _, Below.refl _ _, _, ⟨rfl, fun q hm => ?_⟩, bR, bN, hB, hM⟩
        rcases List.mem_append.1 hm with hm | hm
        · exact hp q hm
        · rw [List.mem_singleton] at hm; subst hm; exact h0
    case done =>
      rintro D ys W hD rfl ⟨v, ⟨rfl, hp⟩, bR, bN, hB, hM⟩ hK
      have HR' := Lib.hid (HD.out.trans (down_no (p := p.drop (k + 1)) (krow_no hp)))
      have HM' := Lib.hid (show Marks w.heap.size W ({ target := .collected D, args := #[] } :: ds) from ⟨⟨D, rfl, Nat.le_trans hsz4 hD, hK, fun d' hd r' e' => by have := hML d' hd r' e'; omega⟩, hM⟩)
      clear hp hM
      gi_wp2
      simp only [Exit.jump]
      refine leaves_marks _ _ HM'.out (fun w' hk => ?_)
      exact ⟨_, results_tmp rfl _ _ _, by rw [HR'.out]; rfl, hB.trans (hk.to_below hB.size (fun _ h => h))⟩
    case stop =>
      rintro D c pre W hD hpre ⟨v, ⟨rfl, pre', rfl⟩, bR, bN, hB, hM⟩ hK
      obtain ⟨j, hj, rfl, rfl⟩ := krow_last hpre
      have HM' := Lib.hid (show Marks w.heap.size W ({ target := .collected D, args := #[] } :: ds) from ⟨⟨D, rfl, Nat.le_trans hsz4 hD, hK, fun d' hd r' e' => by have := hML d' hd r' e'; omega⟩, hM⟩)
      obtain ⟨x', c0, -, -, -, hkl, -, -, -, hks⟩ := kid_scan HT.out
      obtain ⟨r, m, -, s2, s3, -, -⟩ := hks j (by omega)
      have s4 := kid_some hj
      rw [s2] at s4
      have s5 := Option.some.inj s4
      have HD' := Lib.hid (HD.out.trans (down_go (p := p.drop (k + 1)) s2))
      have HB' := Lib.hid (show Blk W w1.heap.size 3 #[.int .i64 ((b + 1 + r : Nat) : Int)] by rw [s5]; exact bR)
      have i3 : IntKind.i64.wrap ((k : Int) + 1) = (k : Int) + 1 := IntWalk.i64_in _ (by omega)
      clear hks s4 s5 hM hpre bR bN
      refine wpIn_exit ?_
      gi_wp2
      refine ⟨⟨k + 1, b + 1 + r, m, _, _, _, _, _, _, _, _, _, _, _, _, _, _, _, _, _, _, _, rfl, by omega, s3, HD'.out, HB'.out, hB, HM'.out⟩, ?_⟩
      show p.length - (k + 1) < p.length - k
      omega
  · have hk9 : k = p.length := by omega
    subst hk9
    rw [List.drop_length, down_nil] at hd
    have i1 : ¬ (p.length : Int) < (p.length : Int) := by omega
    have cR := bR.cell 0
    have HD := Lib.hid hd
    have HB := Lib.hid hB
    have HM := Lib.hid hM
    clear hd ht hB hM bR
    gi_wp2
    simp only [Exit.jump]
    refine leaves_marks ds _ HM.out (fun w' hk => ?_)
    exact ⟨_, results_tmp rfl _ _ _, by rw [HD.out]; rfl, HB.out.trans (hk.to_below HB.out.size (fun _ h => h))⟩

set_option maxRecDepth 100000 in
theorem Find_any (A : Option Addr) (cap : Nat) (xs : List Nd) (A' : Option Addr) (c' : Nat) (p : List Int) (w : World) (hx : Nodes w w.heap.size A xs) (hl : xs.length ≤ 1000000) (hy : IRow w w.heap.size A' p) (hp : p.length ≤ 1000000) :
    Calls Try.prog 12 #[.slice A xs.length cap, .slice A' p.length c'] w fun e w' => e = .returned (.int .i64 (pfind xs p)) ∧ Below w.heap.size w w' := by
  by_cases hw : Whole xs
  · have h : pfind xs p = down xs p 0 := if_pos hw
    rw [h]
    exact (callsIn_wide (n := 4)).1 (Find_whole A cap xs A' c' p w hx hl hy hp hw)
  · have HE := Lib.hid (whole_any A cap xs w hx hl)
    rw [show (aend xs 0 == (xs.length : Int)) = false by rw [beq_eq_false_iff_ne]; exact hw] at HE
    have HR := Lib.hid (show pfind xs p = -1 from if_neg hw)
    clear hw hx hy
    have hf1 : Fence.wide.fn 18 := trivial
    refine (callsIn_wide (n := 4)).1 ?_
    refine callsIn_of_wp_marks Try.func12 rfl trivial ?_ rfl
    simp only [Try.ntmps12, List.size_toArray, List.length_cons, List.length_nil, Nat.reduceAdd, Nat.reduceSub, Array.replicate_succ, Array.replicate_zero, List.push_toArray, List.append_toArray, List.nil_append, List.cons_append]
    gi_wp2
    refine _root_.Go.Proofs.Ytjjdpjdmeeholaa.Jumps.wpIn_scope_jumps 0 (fun _ _ => False) (fun _ _ => 0) rfl ?_ (fun _ _ h => h.elim)
    gi_wp2_with (gi_at_call 18; refine ((callsIn_wide (n := 3)).2 HE.out).mono ?_; rintro e w1 ⟨rfl, hb1⟩)
    simp only [Exit.jump]
    exact ⟨_, results_tmp rfl _ _ _, by rw [HR.out]; rfl, hb1⟩

end Go.Proofs.Ytjjdpjdmeeholaa.Path
