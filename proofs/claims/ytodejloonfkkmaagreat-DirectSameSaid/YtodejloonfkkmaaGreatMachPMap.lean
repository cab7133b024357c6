/-
  Package machine, walked: what nodes do, laid in a map by their tags.
-/
import Derived.Test.YtodejloonfkkmaaGreatMachPTell
import Derived.Test.YtodejloonfkkmaaGreatKindsP
set_option linter.unusedVariables false
namespace Go.Proofs.YtodejloonfkkmaaGreat.Mach
open Go.RowKit Mem _root_.Go.Proofs.YtodejloonfkkmaaGreat.Arena _root_.Go.Proofs.YtodejloonfkkmaaGreat.Kinds _root_.Go.Proofs.YtodejloonfkkmaaGreat.Path _root_.Go.Proofs.YtodejloonfkkmaaGreat.Cat _root_.Go.Proofs.YtodejloonfkkmaaGreat.Suite
attribute [local go_sem ↓] Go.wp_at_zero Go.wp_at_succ

/-- Newer than a block. -/
def After (m k : Nat) : Prop := m < k
def Made (m : Nat) (q : FuncId) (v : Value) (W : World) : Prop := ∃ b, v = .func (.func 110) #[] #[boxP b] ∧ BoxIn W (After m) b 156 (.func (.func q) #[] #[])
def MadeD (m : Nat) (q : FuncId) (v : Value) (W : World) : Prop := ∃ b c, v = .func (.func 111) #[] #[boxP c] ∧ BoxIn W (After m) c 154 (.func (.func 110) #[] #[boxP b]) ∧ BoxIn W (After m) b 156 (.func (.func q) #[] #[])
def MadeC (m : Nat) (q : FuncId) (v : Value) (W : World) : Prop := ∃ b c, v = .func (.func 110) #[] #[boxP c] ∧ BoxIn W (After m) c 156 (.func (.func 112) #[] #[boxP b]) ∧ BoxIn W (After m) b 158 (.func (.func q) #[] #[])
def MadeJ (m : Nat) (k : Int) (v : Value) (W : World) : Prop := ∃ b, v = .func (.func 113) #[] #[boxP b] ∧ BoxIn W (After m) b 3 (.int .i64 k)
theorem BoxIn.kept {W W' : World} {m b : Nat} {t : TypeId} {v : Value} (h : BoxIn W (After m) b t v) (hk : Kept (fun k => k = m) W W') : BoxIn W' (After m) b t v :=
  ⟨h.1.kept hk (fun e => by have := h.2; unfold After at this; omega), h.2⟩
theorem BoxIn.to {W : World} {C C' : Nat → Prop} {b : Nat} {t : TypeId} {v : Value} (h : BoxIn W C b t v) (hC : ∀ k, C k → k < W.heap.size → C' k) : BoxIn W C' b t v := ⟨h.1, hC b h.2 h.1.lt⟩
theorem Made.kept {W W' : World} {m : Nat} {q : FuncId} {v : Value} (h : Made m q v W) (hk : Kept (fun k => k = m) W W') : Made m q v W' := by
  obtain ⟨b, h1, h2⟩ := h
  exact ⟨b, h1, h2.kept hk⟩
theorem MadeD.kept {W W' : World} {m : Nat} {q : FuncId} {v : Value} (h : MadeD m q v W) (hk : Kept (fun k => k = m) W W') : MadeD m q v W' := by
  obtain ⟨b, c, h1, h2, h3⟩ := h
  exact ⟨b, c, h1, h2.kept hk, h3.kept hk⟩
theorem MadeC.kept {W W' : World} {m : Nat} {q : FuncId} {v : Value} (h : MadeC m q v W) (hk : Kept (fun k => k = m) W W') : MadeC m q v W' := by
  obtain ⟨b, c, h1, h2, h3⟩ := h
  exact ⟨b, c, h1, h2.kept hk, h3.kept hk⟩
theorem MadeJ.kept {W W' : World} {m : Nat} {q : Int} {v : Value} (h : MadeJ m q v W) (hk : Kept (fun k => k = m) W W') : MadeJ m q v W' := by
  obtain ⟨b, h1, h2⟩ := h
  exact ⟨b, h1, h2.kept hk⟩
set_option maxRecDepth 100000 in
theorem mk_reckoned (f : FuncId) (cs : Array Value) (w : World) : Calls Tryz.prog 57 #[.func (.func f) #[] cs] w fun e w' => e = .returned (.func (.func 110) #[] #[boxP w.heap.size]) ∧ Blk w' w.heap.size 156 #[.func (.func f) #[] cs] ∧ Below w.heap.size w w' := by
  have hB : Below w.heap.size w (w.alloc (.cells #[.func (.func f) #[] cs] 156)) := (Below.refl _ _).alloc (Nat.le_refl _) _
  have bX := Blk.new w 156 #[.func (.func f) #[] cs]
  go_enter Tryz.func57, Tryz.ntmps57
  go_wp2_with fail
  go_ret
  exact ⟨rfl, bX, hB⟩
set_option maxRecDepth 100000 in
theorem mk_joined (k : Int) (w : World) (m : Nat) (hm : m < w.heap.size) : Calls Tryz.prog 73 #[.int .i64 k] w fun e w' => ∃ v, e = .returned v ∧ MadeJ m k v w' ∧ Below w.heap.size w w' := by
  have hB : Below w.heap.size w (w.alloc (.cells #[.int .i64 k] 3)) := (Below.refl _ _).alloc (Nat.le_refl _) _
  have bX := Blk.new w 3 #[.int .i64 k]
  go_enter Tryz.func73, Tryz.ntmps73
  go_wp2_with fail
  go_ret
  exact ⟨_, rfl, ⟨_, rfl, bX, hm⟩, hB⟩
set_option maxRecDepth 100000 in
theorem mk_made (q : FuncId) (w : World) (m : Nat) (hm : m < w.heap.size) : Calls Tryz.prog 57 #[.func (.func q) #[] #[]] w fun e w' => ∃ v, e = .returned v ∧ Made m q v w' ∧ Below w.heap.size w w' := by
  refine (mk_reckoned q #[] w).mono ?_
  rintro e w' ⟨rfl, h1, h2⟩
  exact ⟨_, rfl, ⟨_, rfl, h1, hm⟩, h2⟩
set_option maxRecDepth 100000 in
theorem mk_divided (q : FuncId) (w : World) (m : Nat) (hm : m < w.heap.size) : Calls Tryz.prog 63 #[.func (.func q) #[] #[]] w fun e w' => ∃ v, e = .returned v ∧ MadeD m q v w' ∧ Below w.heap.size w w' := by
  have HR := Lib.hid (fun W => mk_reckoned q #[] W)
  go_enter Tryz.func63, Tryz.ntmps63
  go_wp2_with (first | (go_at_call 57; (with_reducible refine (HR.out _).mono ?_); rintro e w1 ⟨rfl, h1, h2⟩; have bY := Blk.new w1 154 #[.func (.func 110) #[] #[boxP w.heap.size]]; have hB2 := h2.alloc h2.size (.cells #[.func (.func 110) #[] #[boxP w.heap.size]] 154)) | fail)
  go_ret
  have hl := h1.lt
  exact ⟨_, rfl, ⟨w.heap.size, w1.heap.size, rfl, ⟨bY, by unfold After; omega⟩, h1.alloc _, hm⟩, hB2⟩
set_option maxRecDepth 100000 in
theorem mk_compared (q : FuncId) (w : World) (m : Nat) (hm : m < w.heap.size) : Calls Tryz.prog 66 #[.func (.func q) #[] #[]] w fun e w' => ∃ v, e = .returned v ∧ MadeC m q v w' ∧ Below w.heap.size w w' := by
  have hB : Below w.heap.size w (w.alloc (.cells #[.func (.func q) #[] #[]] 158)) := (Below.refl _ _).alloc (Nat.le_refl _) _
  have bX := Blk.new w 158 #[.func (.func q) #[] #[]]
  have HR := Lib.hid (fun f cs W => mk_reckoned f cs W)
  go_enter Tryz.func66, Tryz.ntmps66
  go_wp2_with (first | (go_at_call 57; (with_reducible refine (HR.out _ _ _).mono ?_); rintro e w1 ⟨rfl, h1, h2⟩) | fail)
  go_ret
  have hl := bX.lt
  exact ⟨_, rfl, ⟨w.heap.size, _, rfl, ⟨by rw [World.size_alloc] at h1; exact h1, by unfold After; omega⟩, bX.below h2 hl, hm⟩, hB.trans (h2.mono hB.size)⟩

/-- A map that a call owns, where its block is as it was. -/
theorem map_move {P : Program} {k : TypeId} {H : Type} {R : Value → Option (DataW H × List MemPlace)} {w w' : World} {b n : Nat} {D : DataW H} (h : w.ownsMap P k R b n D) (e : w'.heap[b]? = w.heap[b]?) : w'.ownsMap P k R b n D := by
  obtain ⟨es, clock, h1, h2⟩ := h
  exact ⟨es, clock, e.trans h1, h2⟩
/-- What is laid in the map. -/
def laid (v : Nat → Value) (t : Int) : Value :=
  if t = 1 ∨ t = 2 then .func (.func 54) #[] #[]
  else if t = 3 then .func (.func 55) #[] #[]
  else if t = 4 then .func (.func 56) #[] #[]
  else if t = 20 ∨ t = 26 then .func (.func 74) #[] #[]
  else if t = 21 then .func (.func 75) #[] #[]
  else if t = 22 then .func (.func 76) #[] #[]
  else if t = 23 then .func (.func 77) #[] #[]
  else if t = 24 then .func (.func 78) #[] #[]
  else if t = 25 then .func (.func 79) #[] #[]
  else v t.toNat
/-- The values that were made, by their tags. -/
structure AllMade (m : Nat) (v : Nat → Value) (W : World) : Prop where
  m5 : Made m 58 (v 5) W
  m6 : Made m 59 (v 6) W
  m7 : Made m 60 (v 7) W
  m8 : Made m 61 (v 8) W
  m9 : Made m 62 (v 9) W
  m10 : MadeD m 64 (v 10) W
  m11 : MadeD m 65 (v 11) W
  m12 : MadeC m 67 (v 12) W
  m13 : MadeC m 68 (v 13) W
  m14 : MadeC m 69 (v 14) W
  m15 : MadeC m 70 (v 15) W
  m16 : MadeC m 71 (v 16) W
  m17 : MadeC m 72 (v 17) W
  m18 : MadeJ m 0 (v 18) W
  m19 : MadeJ m 1 (v 19) W
theorem AllMade.acts {m : Nat} {v : Nat → Value} {W : World} (h : AllMade m v W) {C : Nat → Prop} (hC : ∀ k, m < k → k < W.heap.size → C k) : ∀ t : Int, 1 ≤ t → t ≤ 26 → ActV W C t (laid v t) := by
  intro t h1 h2
  have bx : ∀ {b : Nat} {ty : TypeId} {x : Value}, BoxIn W (After m) b ty x → BoxIn W C b ty x := fun q => q.to hC
  have cM : ∀ (t : Int) (q : FuncId) (x : Value), (t, q) ∈ [((5 : Int), 58), (6, 59), (7, 60), (8, 61), (9, 62)] → Made m q x W → ActV W C t x := fun t q x hq hM => by
    obtain ⟨b, e, hb⟩ := hM
    exact .inr (.inr (.inr (.inr (.inr (.inr (.inr (.inr (.inr (.inr (.inl ⟨b, q, hq, e, bx hb⟩))))))))))
  have cD : ∀ (t : Int) (q : FuncId) (x : Value), (t, q) ∈ [((10 : Int), 64), (11, 65)] → MadeD m q x W → ActV W C t x := fun t q x hq hM => by
    obtain ⟨b, c, e, hc, hb⟩ := hM
    exact .inr (.inr (.inr (.inr (.inr (.inr (.inr (.inr (.inr (.inr (.inr (.inl ⟨b, c, q, hq, e, bx hc, bx hb⟩)))))))))))
  have cC : ∀ (t : Int) (q : FuncId) (x : Value), (t, q) ∈ [((12 : Int), 67), (13, 68), (14, 69), (15, 70), (16, 71), (17, 72)] → MadeC m q x W → ActV W C t x := fun t q x hq hM => by
    obtain ⟨b, c, e, hc, hb⟩ := hM
    exact .inr (.inr (.inr (.inr (.inr (.inr (.inr (.inr (.inr (.inr (.inr (.inr ⟨b, c, q, hq, e, bx hc, bx hb⟩)))))))))))
  have cJ : ∀ (t : Int) (x : Value), t = 18 ∨ t = 19 → MadeJ m (t - 18) x W → ActV W C t x := fun t x ht hM => by
    obtain ⟨b, e, hb⟩ := hM
    exact .inr (.inr (.inr (.inr (.inr (.inr (.inr (.inr (.inr (.inl ⟨ht, b, e, bx hb⟩)))))))))
  obtain ⟨n, rfl⟩ := Int.eq_ofNat_of_zero_le (show 0 ≤ t by omega)
  rcases (show n = 1 ∨ n = 2 ∨ n = 3 ∨ n = 4 ∨ n = 5 ∨ n = 6 ∨ n = 7 ∨ n = 8 ∨ n = 9 ∨ n = 10 ∨ n = 11 ∨ n = 12 ∨ n = 13 ∨ n = 14 ∨ n = 15 ∨ n = 16 ∨ n = 17 ∨ n = 18 ∨ n = 19 ∨ n = 20 ∨ n = 21 ∨ n = 22 ∨ n = 23 ∨ n = 24 ∨ n = 25 ∨ n = 26 by omega) with rfl | rfl | rfl | rfl | rfl | rfl | rfl | rfl | rfl | rfl | rfl | rfl | rfl | rfl | rfl | rfl | rfl | rfl | rfl | rfl | rfl | rfl | rfl | rfl | rfl | rfl
  · exact .inl ⟨.inl rfl, rfl⟩
  · exact .inl ⟨.inr rfl, rfl⟩
  · exact .inr (.inl ⟨rfl, rfl⟩)
  · exact .inr (.inr (.inl ⟨rfl, rfl⟩))
  · exact cM 5 _ _ (by decide) h.m5
  · exact cM 6 _ _ (by decide) h.m6
  · exact cM 7 _ _ (by decide) h.m7
  · exact cM 8 _ _ (by decide) h.m8
  · exact cM 9 _ _ (by decide) h.m9
  · exact cD 10 _ _ (by decide) h.m10
  · exact cD 11 _ _ (by decide) h.m11
  · exact cC 12 _ _ (by decide) h.m12
  · exact cC 13 _ _ (by decide) h.m13
  · exact cC 14 _ _ (by decide) h.m14
  · exact cC 15 _ _ (by decide) h.m15
  · exact cC 16 _ _ (by decide) h.m16
  · exact cC 17 _ _ (by decide) h.m17
  · exact cJ 18 _ (.inl rfl) h.m18
  · exact cJ 19 _ (.inr rfl) h.m19
  · exact .inr (.inr (.inr (.inl ⟨.inl rfl, rfl⟩)))
  · exact .inr (.inr (.inr (.inr (.inl ⟨rfl, rfl⟩))))
  · exact .inr (.inr (.inr (.inr (.inr (.inl ⟨rfl, rfl⟩)))))
  · exact .inr (.inr (.inr (.inr (.inr (.inr (.inl ⟨rfl, rfl⟩))))))
  · exact .inr (.inr (.inr (.inr (.inr (.inr (.inr (.inl ⟨rfl, rfl⟩)))))))
  · exact .inr (.inr (.inr (.inr (.inr (.inr (.inr (.inr (.inl ⟨rfl, rfl⟩))))))))
  · exact .inr (.inr (.inr (.inl ⟨.inr rfl, rfl⟩)))
/-- Fifteen values, by their tags. -/
def vals15 (a5 a6 a7 a8 a9 a10 a11 a12 a13 a14 a15 a16 a17 a18 a19 : Value) (n : Nat) : Value :=
  if n = 5 then a5 else if n = 6 then a6 else if n = 7 then a7 else if n = 8 then a8 else if n = 9 then a9 else if n = 10 then a10 else if n = 11 then a11 else if n = 12 then a12 else if n = 13 then a13 else if n = 14 then a14 else if n = 15 then a15 else if n = 16 then a16 else if n = 17 then a17 else if n = 18 then a18 else a19
/-- What acts comes to. -/
def ActsEnds (w : World) (e : Ending) (w' : World) : Prop :=
  ∃ v, e = .returned (.map (some w.heap.size)) ∧ w'.ownsMap Tryz.prog 3 itselfA w.heap.size 26 (tableA (laid v)) ∧ AllMade w.heap.size v w' ∧ Below w.heap.size w w'
theorem acts_pack {w w' : World} {a5 a6 a7 a8 a9 a10 a11 a12 a13 a14 a15 a16 a17 a18 a19 : Value} (hB : Below w.heap.size w w')
    (h : MadeJ w.heap.size 1 a19 w' ∧ MadeJ w.heap.size 0 a18 w' ∧ MadeC w.heap.size 72 a17 w' ∧ MadeC w.heap.size 71 a16 w' ∧ MadeC w.heap.size 70 a15 w' ∧ MadeC w.heap.size 69 a14 w' ∧ MadeC w.heap.size 68 a13 w' ∧ MadeC w.heap.size 67 a12 w' ∧
      MadeD w.heap.size 65 a11 w' ∧ MadeD w.heap.size 64 a10 w' ∧ Made w.heap.size 62 a9 w' ∧ Made w.heap.size 61 a8 w' ∧ Made w.heap.size 60 a7 w' ∧ Made w.heap.size 59 a6 w' ∧ Made w.heap.size 58 a5 w' ∧ True)
    (hown : w'.ownsMap Tryz.prog 3 itselfA w.heap.size 26 (tableA (laid (vals15 a5 a6 a7 a8 a9 a10 a11 a12 a13 a14 a15 a16 a17 a18 a19)))) : ActsEnds w (.returned (.map (some w.heap.size))) w' := by
  obtain ⟨h19, h18, h17, h16, h15, h14, h13, h12, h11, h10, h9, h8, h7, h6, h5, -⟩ := h
  exact ⟨_, rfl, hown, ⟨h5, h6, h7, h8, h9, h10, h11, h12, h13, h14, h15, h16, h17, h18, h19⟩, hB⟩
set_option maxRecDepth 100000 in
set_option maxHeartbeats 4000000 in
theorem acts_any (w : World) : Calls Tryz.prog 33 #[] w (ActsEnds w) := by
  have HM := Lib.hid (fun q W m hm => mk_made q W m hm)
  have HD := Lib.hid (fun q W m hm => mk_divided q W m hm)
  have HC := Lib.hid (fun q W m hm => mk_compared q W m hm)
  have HJ := Lib.hid (fun q W m hm => mk_joined q W m hm)
  go_enter Tryz.func33, Tryz.ntmps33
  go_wp2_with (first
    | (refine wpList_map_own _ rfl 61 rfl 3 itselfA ?_; intro b w4 hb0 hown hB; subst hb0; have hlt := hown.lt; have hacc : Hid (∀ W : World, Kept (fun k => k = w.heap.size) w4 W → True) := Lib.hid (fun W h => trivial))
    | (refine wpList_insert_own _ rfl _ _ _ 61 rfl 3 154 key_int16 Tryz.underlying61 itselfA _ _ _ rfl hown (by unfold maxLen; omega) _ _ _ rfl rfl (Go.Maps.keyOf_int_mk Tryz.underlying3 (by decide)) _ [] rfl ?_; intro w5 ho5 hg5; replace hown := ho5; replace hB := hB.grown hg5 hB.size (fun j hj => by cases hj; exact Nat.le_refl _); replace hlt := hown.lt
       replace hacc := Lib.hid (fun (W : World) (h : Kept (fun k => k = w.heap.size) w5 W) => hacc.out W (((Kept.refl (fun k => k = w.heap.size) _).grown hg5 (fun k e => .inl (Option.some.inj e).symm)).trans h)); clear ho5 hg5)
    | (go_at_call 57; (with_reducible refine (HM.out _ _ _ hlt).mono ?_); rintro e w6 ⟨v6, rfl, hm6, hb6⟩; replace hown := map_move hown (hb6.block _ hlt); replace hB := hB.trans (hb6.mono hB.size); replace hlt := hown.lt
       replace hacc := Lib.hid (fun (W : World) (h : Kept (fun k => k = w.heap.size) w6 W) => And.intro (hm6.kept h) (hacc.out W ((Kept.of_below hb6 (Nat.le_refl _)).trans h))); clear hm6 hb6)
    | (go_at_call 63; (with_reducible refine (HD.out _ _ _ hlt).mono ?_); rintro e w6 ⟨v6, rfl, hm6, hb6⟩; replace hown := map_move hown (hb6.block _ hlt); replace hB := hB.trans (hb6.mono hB.size); replace hlt := hown.lt
       replace hacc := Lib.hid (fun (W : World) (h : Kept (fun k => k = w.heap.size) w6 W) => And.intro (hm6.kept h) (hacc.out W ((Kept.of_below hb6 (Nat.le_refl _)).trans h))); clear hm6 hb6)
    | (go_at_call 66; (with_reducible refine (HC.out _ _ _ hlt).mono ?_); rintro e w6 ⟨v6, rfl, hm6, hb6⟩; replace hown := map_move hown (hb6.block _ hlt); replace hB := hB.trans (hb6.mono hB.size); replace hlt := hown.lt
       replace hacc := Lib.hid (fun (W : World) (h : Kept (fun k => k = w.heap.size) w6 W) => And.intro (hm6.kept h) (hacc.out W ((Kept.of_below hb6 (Nat.le_refl _)).trans h))); clear hm6 hb6)
    | (go_at_call 73; (with_reducible refine (HJ.out _ _ _ hlt).mono ?_); rintro e w6 ⟨v6, rfl, hm6, hb6⟩; replace hown := map_move hown (hb6.block _ hlt); replace hB := hB.trans (hb6.mono hB.size); replace hlt := hown.lt
       replace hacc := Lib.hid (fun (W : World) (h : Kept (fun k => k = w.heap.size) w6 W) => And.intro (hm6.kept h) (hacc.out W ((Kept.of_below hb6 (Nat.le_refl _)).trans h))); clear hm6 hb6)
    | fail)
  go_ret
  exact acts_pack hB (hacc.out _ (Kept.refl _ _)) hown
end Go.Proofs.YtodejloonfkkmaaGreat.Mach
