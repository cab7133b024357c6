/-
  Package path, walked: a node and all below it, told place by place to a loop's body, with their paths (a method that calls itself and keeps where it stands).
-/
import Derived.Test.YtjjdpjdmeeholaaPathPSmall
import Derived.Maps.OwnIn
namespace Go.Proofs.Ytjjdpjdmeeholaa.Path
open Go.RowKit Go.Shelf Mem _root_.Go.Proofs.Ytjjdpjdmeeholaa.Arena _root_.Go.Proofs.Ytjjdpjdmeeholaa.RangeO
set_option linter.unusedVariables false

attribute [local go_sem] Oper.semAt_some

/-- Where the walk stands: G: its block; what it owns besides: base and behind. -/
def St (w : World) (G base : Nat) (A : Option Addr) (cap : Nat) (xs : List Nd) (a : Nat) (left : Bool) (p : List Int) : Prop :=
  ∃ v, Blk w G 39 #[.slice A xs.length cap, .int .i64 a, v, .bool left] ∧ w.ownsRow base 3 1 v p.length (icells p)

/-- What the walk may turn. -/
def Turns (G base : Nat) (Φ : Nat → Prop) (k : Nat) : Prop := k = G ∨ Φ k ∨ base ≤ k

theorem kept_setCell {W : World} {G i : Nat} (v : Value) : Kept (· = G) W (W.setCell ⟨G, i, none⟩ v) := (Kept.refl (· = G) W).setCell (p := ⟨G, i, none⟩) (.inl rfl) v
/-- A row that is owned, as numbers, and where it lies. -/
theorem own_slice {w : World} {base : Nat} {A : Option Addr} {n c : Nat} {ks : List Int} (hn : ks.length = n) (h : w.ownsRow base 3 1 (.slice A n c) n (icells ks)) :
    n ≤ c ∧ (A = none → c = 0) ∧ IRow w w.heap.size A ks ∧ (∀ ad, A = some ad → base ≤ ad.block) := by
  subst hn
  obtain ⟨A', c', e, h1, h2, h3, h4⟩ := own_ints2' h
  simp only [Value.slice.injEq, true_and] at e
  obtain ⟨rfl, rfl⟩ := e
  exact ⟨h1, h2, h3, h4⟩
theorem own_form {w : World} {base : Nat} {v : Value} {ks : List Int} (h : w.ownsRow base 3 1 v ks.length (icells ks)) : ∃ A c, v = .slice A ks.length c := by
  obtain ⟨A, c, e, -⟩ := own_ints2' h
  exact ⟨A, c, e⟩

set_option maxRecDepth 100000 in
set_option maxHeartbeats 4000000 in
theorem below_in (G base l B : Nat) (A : Option Addr) (cap : Nat) (xs : List Nd) (hl : xs.length ≤ 1000000) (hw : Whole xs) (hBG : B ≤ G) (hGb : G < base) (Φ : Nat → Prop) (hΦ : ∀ k, Φ k → k ≠ G ∧ k < base ∧ B ≤ k)
    (J : Nat → World → Prop) (Jx : World → Prop) (hJ : ∀ a X Y, J a X → Kept (fun k => k = G ∨ base ≤ k) X Y → J a Y) (hJx : ∀ X Y, Jx X → Kept (· = G) X Y → Jx Y)
    (hY : ∀ (a : Nat) (p : List Int) (A' : Option Addr) (c : Nat) (W : World), a < xs.length → Leads xs a p → J a W → p.length ≤ c → (A' = none → c = 0) → IRow W W.heap.size A' p → (∀ ad, A' = some ad → base ≤ ad.block) →
      YieldAt Fence.wide 3 Try.prog l #[.int .i64 a, .slice A' p.length c] W fun e W' => ∃ b, e = .returned (.bool b) ∧ Kept Φ W W' ∧ (b = true → J (a + 1) W') ∧ (b = false → Jx W')) :
    ∀ (n a : Nat) (p : List Int) (W : World), T xs a n → Leads xs a p → St W G base A cap xs a false p → Nodes W B A xs → base ≤ W.heap.size → J a W →
      CallsIn Fence.wide 4 Try.prog 19 #[.pointer (some ⟨G, 0, none⟩), .func (.yield l) #[] #[]] W fun e W' => e = .returned (.tuple #[]) ∧ Kept (Turns G base Φ) W W' ∧
        ∃ lf nx, St W' G base A cap xs nx lf p ∧ (lf = false → nx = a + n ∧ J nx W') ∧ (lf = true → Jx W') := by
  intro n
  induction n using Nat.strongRecOn with
  | _ n ih =>
    intro a p W ht hp hs hx hbW hJa
    obtain ⟨x, c, hxk, har, hc, hkl, hsc, hn1, hn, hks⟩ := kid_scan ht
    have hpl := hp.rng
    obtain ⟨v, bG, hown⟩ := hs
    obtain ⟨Ap, cp, rfl⟩ := own_form hown
    have hGW : G < W.heap.size := by omega
    -- the round
    have hk1 := kept_setCell (W := W) (G := G) (i := 1) (.int .i64 ((a : Int) + 1))
    have bG1 := bG.set 1 (.int .i64 ((a : Int) + 1))
    rw [show (#[Value.slice A xs.length cap, .int .i64 a, .slice Ap p.length cp, .bool false] : Array Value).setIfInBounds 1 (.int .i64 ((a : Int) + 1)) = #[.slice A xs.length cap, .int .i64 ((a : Int) + 1), .slice Ap p.length cp, .bool false] from rfl] at bG1
    have hown1 := own_of_block hown (w' := W.setCell ⟨G, 1, none⟩ (.int .i64 ((a : Int) + 1))) (fun k hk => hk1.block k (hown.lt k hk).2 (by have := (hown.lt k hk).1; omega))
    obtain ⟨q1, q2, q3, q4⟩ := own_slice rfl hown1
    obtain ⟨fn, tmps, assign, body, hyy, hR⟩ := hY a p Ap cp _ (by omega) hp (hJ _ _ _ hJa (hk1.mono (fun k q => .inl q))) q1 q2 q3 q4
    have v1 : IntKind.i64.wrap ((a : Int) + 1) = (a : Int) + 1 := IntWalk.i64_in _ (by omega)
    have cG1 := bG.cell 1
    have fG1 := bG.frozen 1
    have cG2 := bG1.cell 2
    have HX1 := Lib.hid (fun W' (h : Kept (Turns G base Φ) W W') => hx.keep (w' := W') (fun k hk => h.block k (by omega) (by rintro (q | q | q); omega; have := (hΦ k q).2.2; omega; omega)))
    have HW1 := Lib.hid (hk1.mono (S' := Turns G base Φ) (fun k q => .inl q))
    have HO1 := Lib.hid hown1
    have HB1 := Lib.hid bG1
    have HIH := Lib.hid ih
    have HJ := Lib.hid hJ
    have HJx := Lib.hid hJx
    have HKS := Lib.hid hks
    have HXK := Lib.hid hxk
    have HAR := Lib.hid (fun W => Arity_any x.1 x.2 W)
    rw [show ar (x.1, x.2) = (c : Int) from har] at HAR
    have HL := Lib.hid hp
    have HSC := Lib.hid hsc
    have hf1 : Fence.wide.fn 26 := trivial
    have hf2 : Fence.wide.fn 19 := trivial
    clear ih hJ hJx hY hks hxk har hp hown hown1 hJa hx bG bG1 hk1 q1 q2 q3 q4 hsc ht hw
    refine callsIn_of_wp Try.func19 rfl trivial ?_ rfl
    simp only [Try.ntmps19, List.size_toArray, List.length_cons, List.length_nil, Nat.reduceAdd, Nat.reduceSub, Array.replicate_succ, Array.replicate_zero, List.push_toArray, List.append_toArray, List.nil_append, List.cons_append]
    gi_wp2
    refine hR.mono ?_
    rintro e W2 ⟨b, rfl, hK2, hT, hF⟩
    have bG2 := HB1.out.kept hK2 (fun q => (hΦ _ q).1 rfl)
    have hK2' := HW1.out.trans (hK2.mono (S' := Turns G base Φ) (fun k q => .inr (.inl q)))
    have hown2 := own_of_block HO1.out (fun k hk => hK2.block k (HO1.out.lt k hk).2 (fun q => by have := (HO1.out.lt k hk).1; have := (hΦ k q).2.1; omega))
    have hk3 := kept_setCell (W := W2) (G := G) (i := 3) (.bool (!b))
    have bG3 := bG2.set 3 (.bool (!b))
    rw [show (#[Value.slice A xs.length cap, .int .i64 ((a : Int) + 1), .slice Ap p.length cp, .bool false] : Array Value).setIfInBounds 3 (.bool (!b)) = #[.slice A xs.length cap, .int .i64 ((a : Int) + 1), .slice Ap p.length cp, .bool (!b)] from rfl] at bG3
    have hown3 := own_of_block hown2 (w' := W2.setCell ⟨G, 3, none⟩ (.bool (!b))) (fun k hk => hk3.block k (hown2.lt k hk).2 (by have := (hown2.lt k hk).1; omega))
    have hK3 := hK2'.trans (hk3.mono (S' := Turns G base Φ) (fun k q => .inl q))
    have fG3 := bG2.frozen 3
    have cG3 := bG2.cell 3
    have c30 := bG3.cell 0
    have c32 := bG3.cell 2
    have hJ3 : (!b) = false → J (a + 1) (W2.setCell ⟨G, 3, none⟩ (.bool (!b))) := fun h => HJ.out _ _ _ (hT (by simpa using h)) (hk3.mono (fun k q => .inl q))
    have hX3 : (!b) = true → Jx (W2.setCell ⟨G, 3, none⟩ (.bool (!b))) := fun h => HJx.out _ _ (hF (by simpa using h)) hk3
    obtain ⟨ad, hA, hbk, g0, g1⟩ := HX1.out _ hK3 a x HXK.out
    have i1 : (a : Int) < (xs.length : Int) := by omega
    have i2 : (0 : Int) ≤ (a : Int) := by omega
    subst hA
    clear hT hF hK2 hK2' bG2 hown2 hR hyy cG1 fG1 cG2
    have HO3 := Lib.hid hown3
    have HB3 := Lib.hid bG3
    have HK3 := Lib.hid hK3
    have HJ3 := Lib.hid hJ3
    have HX3 := Lib.hid hX3
    clear hown3 bG3 hJ3 hX3 hK3 HO1 HB1 HW1 hk3
    gi_wp2_with (gi_at_call 26; refine ((callsIn_wide (n := 3)).2 (HAR.out _)).mono ?_; rintro e W4 ⟨rfl, hb4⟩)
    clear c30 c32 g0 g1 fG3 cG3
    generalize (!b) = lf0 at *
    have hk4 : Kept (fun k => k = G ∨ base ≤ k) (W2.setCell ⟨G, 3, none⟩ (.bool lf0)) W4 := Kept.of_below hb4 (Nat.le_refl _)
    have hk4' : Kept (· = G) (W2.setCell ⟨G, 3, none⟩ (.bool lf0)) W4 := Kept.of_below hb4 (Nat.le_refl _)
    have HS4 := Lib.hid (show St W4 G base (some ad) cap xs (a + 1) lf0 p from ⟨_, HB3.out.below hb4 HB3.out.lt, own_of_block HO3.out (fun k hk => hb4.block k (HO3.out.lt k hk).2)⟩)
    have HK4 := Lib.hid (HK3.out.trans (hk4.mono (S' := Turns G base Φ) (fun k q => q.elim .inl (fun q => .inr (.inr q)))))
    have HJ4 := Lib.hid (fun h => HJ.out _ _ _ (HJ3.out h) hk4)
    have HX4 := Lib.hid (fun h => HJx.out _ _ (HX3.out h) hk4')
    clear HJ3 HX3 HK3 HB3 HO3 hb4 hk4 hk4'
    gi_loopw [42] (fun i wr => ∃ (k : Nat) (lf : Bool) (nx : Nat), k ≤ c ∧ i = .int .i64 k ∧ St wr G base (some ad) cap xs nx lf p ∧ Kept (Turns G base Φ) W wr ∧ (lf = false → ∃ r, scan k (xs.drop (a + 1)) = some r ∧ nx = a + 1 + r ∧ J nx wr) ∧ (lf = true → Jx wr)) (fun i _ => c - (intOf i).toNat)
    case atStart => exact ⟨0, lf0, a + 1, by omega, rfl, HS4.out, HK4.out, fun h => ⟨0, scan_0 _, rfl, HJ4.out h⟩, HX4.out⟩
    case round =>
      clear HS4 HK4 HJ4 HX4
      obtain ⟨k, lf, nx, hk, rfl, hS, hK, hG, hX⟩ := hrel
      by_cases hlt : k < c
      · have j1 : (k : Int) < (c : Int) := by omega
        cases lf with
        | true =>
          have HP := Lib.hid (show ∃ lf nx, St wr G base (some ad) cap xs nx lf p ∧ (lf = false → nx = a + n ∧ J nx wr) ∧ (lf = true → Jx wr) from ⟨true, nx, hS, (fun h => by cases h), hX⟩)
          obtain ⟨v, bG, hown⟩ := hS
          have c3 := bG.cell 3
          clear bG hown hG hX
          gi_wp2
          refine bodyPost_ret (results_none rfl _ _ _) rfl ?_
          exact ⟨rfl, hK, HP.out⟩
        | false =>
          obtain ⟨r, hr, rfl, hJr⟩ := hG rfl
          clear hX hG
          obtain ⟨r', m, s1, s2, s3, s4, s5⟩ := HKS.out k hlt
          rw [hr] at s1
          obtain rfl := Option.some.inj s1
          have HLK := Lib.hid (leads_kid HL.out s2 (by omega))
          obtain ⟨v, bG, hown⟩ := hS
          have c3 := bG.cell 3
          have c2 := bG.cell 2
          have hGr := bG.lt
          have HB := Lib.hid bG
          have HO := Lib.hid (hown.alloc (.cells #[.int .i64 k] 3))
          have hov := hown.lt
          have HSC2 := Lib.hid s4
          have HT2 := Lib.hid s3
          have hKr := hK
          have hbr : base ≤ wr.heap.size := Nat.le_trans hbW hK.size
          have HK := Lib.hid hK
          have HJr := Lib.hid hJr
          have v2 : IntKind.i64.wrap ((k : Int) + 1) = (k : Int) + 1 := IntWalk.i64_in _ (by omega)
          obtain ⟨ig, hig, hz0, hz1, hz2⟩ := info_parts info_int
          clear s1 s2 s3 s4 hr hK hJr bG hown hKr
          have hsz0 : base ≤ (wr.alloc (.cells #[.int .i64 (k : Int)] 3)).heap.size := by rw [World.size_alloc]; omega
          gi_wp2_with (first
            | (gi_at_builtin; refine wpListIn_append_own_at _ rfl _ _ 23 rfl base 3 ig _ 1 8 Try.underlying23 hig hz0 hz1 hz2 rfl (by decide) v p.length (icells p) rfl HO.out ⟨wr.heap.size, 0, none⟩ 1 1 [.int .i64 (k : Int)] rfl rfl (World.news_of_block (cs := #[.int .i64 (k : Int)]) (t := 3) (fr := (0, 0)) (heap_alloc_new wr _)) (by simp [Value.oneCell']) (by simp only [maxLen]; omega) (by omega) hsz0 ?_
               intro v5 w5 hown5 hgr5 hnil5 hat5
               have bG5 := (HB.out.alloc (.cells #[.int .i64 (k : Int)] 3)).grown hgr5 (fun e => by have := (hov G e.symm).1; omega)
               have f5 := bG5.frozen 2
               have g5 := bG5.cell 2
               have hk5 : Kept (fun k => k = G ∨ base ≤ k) wr w5 := ((Kept.refl _ wr).alloc _).grown hgr5 (fun k e => .inl (.inr (hov k e).1))
               have hown5' : w5.ownsRow base 3 1 v5 (p ++ [(k : Int)]).length (icells (p ++ [(k : Int)])) := by rw [List.length_append, icells_add]; exact hown5
               obtain ⟨A5, c5, e5⟩ := own_form hown5'
               rw [List.length_append, List.length_singleton] at e5
               subst e5
               have bG6 := bG5.set 2 (.slice A5 (p.length + 1) c5)
               have hown6 := own_of_block hown5' (w' := w5.setCell ⟨G, 2, none⟩ (.slice A5 (p.length + 1) c5)) (fun k hk => (kept_setCell (G := G) (i := 2) _).block k (hown5'.lt k hk).2 (by have := (hown5'.lt k hk).1; omega))
               have hk6 := hk5.trans ((kept_setCell (W := w5) (G := G) (i := 2) (.slice A5 (p.length + 1) c5)).mono (S' := fun k => k = G ∨ base ≤ k) (fun k q => .inl q))
               have hK6 := HK.out.trans (hk6.mono (S' := Turns G base Φ) (fun k q => q.elim .inl (fun q => .inr (.inr q))))
               have hc := HIH.out m (by omega) (a + 1 + r) (p ++ [(k : Int)]) _ HT2.out HLK.out ⟨_, bG6, hown6⟩ (HX1.out _ hK6) (Nat.le_trans hbW hK6.size) (HJ.out _ _ _ HJr.out hk6)
               have HC := Lib.hid hc
               have HK6 := Lib.hid hK6
               clear hown5 hgr5 hnil5 hat5 bG5 hk5 hown5' bG6 hown6 hk6 hK6 hc)
            | (gi_at_call 19; refine ((callsIn_wide (n := 3)).2 (callsIn_wide.1 HC.out)).mono ?_
               rintro e w7 ⟨rfl, hK7, lf7, nx7, ⟨v7, bG7, hown7⟩, h7, h8⟩
               obtain ⟨g7, c7, rfl, -⟩ := hown7.form (by simp)
               have q7 := own_cap hown7
               rw [List.length_append, List.length_singleton] at q7 hown7 bG7
               have c70 := bG7.cell 2
               have f70 := bG7.frozen 2)
            | fail)
          have hk8 := kept_setCell (W := w7) (G := G) (i := 2) (.slice (some ⟨g7, 0, none⟩) p.length c7)
          have bG8 := bG7.set 2 (.slice (some ⟨g7, 0, none⟩) p.length c7)
          have hown8 := own_take (own_of_block hown7 (w' := w7.setCell ⟨G, 2, none⟩ (.slice (some ⟨g7, 0, none⟩) p.length c7)) (fun k hk => hk8.block k (hown7.lt k hk).2 (by have := (hown7.lt k hk).1; omega))) p.length (by omega)
          rw [icells_add, List.take_append_of_le_length (by rw [icells_length]; omega), List.take_of_length_le (by rw [icells_length]; omega)] at hown8
          have hK8 := HK6.out.trans (hK7.trans (hk8.mono (S' := Turns G base Φ) (fun k q => .inl q)))
          have HS8 := Lib.hid (show St (w7.setCell ⟨G, 2, none⟩ (.slice (some ⟨g7, 0, none⟩) p.length c7)) G base (some ad) cap xs nx7 lf7 p from ⟨_, bG8, hown8⟩)
          have HG8 := Lib.hid (show lf7 = false → ∃ r', scan (k + 1) (xs.drop (a + 1)) = some r' ∧ nx7 = a + 1 + r' ∧ J nx7 (w7.setCell ⟨G, 2, none⟩ (.slice (some ⟨g7, 0, none⟩) p.length c7)) from fun h => by
            obtain ⟨e, hj⟩ := h7 h
            exact ⟨r + m, HSC2.out, by omega, HJ.out _ _ _ hj (hk8.mono (fun k q => .inl q))⟩)
          have HX8 := Lib.hid (show lf7 = true → Jx (w7.setCell ⟨G, 2, none⟩ (.slice (some ⟨g7, 0, none⟩) p.length c7)) from fun h => HJx.out _ _ (h8 h) hk8)
          clear h7 h8 hk8 bG8 hown8 hK7
          go_roundw
          case rel => exact ⟨k + 1, lf7, nx7, by omega, by go_num, HS8.out, hK8, HG8.out, HX8.out⟩
          case measure => simp [intOf]; omega
      · have hk9 : k = c := by omega
        subst hk9
        have j1 : ¬ (k : Int) < (k : Int) := by omega
        have hp : ∃ lf nx, St wr G base (some ad) cap xs nx lf p ∧ (lf = false → nx = a + n ∧ J nx wr) ∧ (lf = true → Jx wr) := by
          refine ⟨lf, nx, hS, fun h => ?_, hX⟩
          obtain ⟨r, hr, e, h2⟩ := hG h
          rw [HSC.out] at hr
          have := Option.some.inj hr
          exact ⟨by omega, h2⟩
        have HP := Lib.hid hp
        clear hS hG hX hp
        gi_wp2
        all_goals (go_end0; refine ⟨rfl, hK, ?_⟩; first | exact HP.out | simpa using HP.out)

end Go.Proofs.Ytjjdpjdmeeholaa.Path
