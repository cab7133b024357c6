/-
  Package sites, walked: the mutants of a body, told to a loop's body.
-/
import Derived.Test.YtofhgaioidfdmaaGreatSitesPSite
import Derived.Test.YtofhgaioidfdmaaGreatCatN
set_option linter.unusedVariables false
namespace Go.Proofs.YtofhgaioidfdmaaGreat.Sites
open Go.RowKit Go.Shelf Mem _root_.Go.Proofs.YtofhgaioidfdmaaGreat.Arena _root_.Go.Proofs.YtofhgaioidfdmaaGreat.Delta _root_.Go.Proofs.YtofhgaioidfdmaaGreat.Path _root_.Go.Proofs.YtofhgaioidfdmaaGreat.Cat

attribute [local go_sem] Oper.semAt_some

/-- What a loop's body takes: a mutant whose path is no one else's; it is the loop's then. -/
def MFeeds (lp B : Nat) (L : List Mt) (J : List Mt → (Nat → Prop) → World → Prop) : Prop :=
  ∀ pre m Φ P c W, J pre Φ W → (dl P c m).Ok W → (m.1 ≠ [] → ∀ ad, P = some ad → B ≤ ad.block ∧ ¬ Φ ad.block) → pre ++ [m] <+: L →
    YieldAt Fence.wide 2 Tryz.prog lp #[.agg #[.slice P m.1.length c, .int .i64 m.2.1, .int .i64 m.2.2]] W fun e W' => e = .returned (.bool true) ∧ ∃ Φ', J (pre ++ [m]) Φ' W' ∧ Kept (fun k => k < B ∨ Φ k) W W' ∧ ∀ k, Φ' k → Φ k ∨ W.heap.size ≤ k ∨ (m.1 ≠ [] ∧ ∃ ad, P = some ad ∧ k = ad.block)
/-- What a loop holds: it stays where others write, and the captured body is there. -/
structure MHeld (B Bb : Nat) (A : Option Addr) (c : Nat) (xs : List Nd) (J : List Mt → (Nat → Prop) → World → Prop) : Prop where
  stay : ∀ pre Φ X Y, J pre Φ X → Kept (fun k => B ≤ k ∧ ¬ Φ k) X Y → J pre Φ Y
  lt : ∀ pre Φ X, J pre Φ X → B ≤ X.heap.size ∧ ∀ k, Φ k → k < X.heap.size
  body : ∀ pre Φ X, J pre Φ X → X.cell? ⟨Bb, 0, none⟩ = some (.slice A xs.length c) ∧ Bb < B ∧ Nodes X B A xs

theorem path_any (g : Nat) (A : Option Addr) (c : Nat) (xs : List Nd) (a : Nat) (T : Nat → Prop) (w : World) (hw : Whole xs) (ha : a < xs.length) (hl : xs.length ≤ 1000000) (hp : (ppath xs a).length ≤ 1000000)
    (hs : Fresh w g A c xs a ∨ Asked w g A c xs a T) (hx : Nodes w g A xs) :
    Calls Tryz.prog 58 #[.pointer (some ⟨g, 0, none⟩)] w (PathTold g A c xs a T w) := by
  rcases hs with h | h
  · refine (path_fresh g A c xs a w hw ha hl hp h hx).mono ?_
    rintro e w' ⟨h1, PA, pc, B, h2, h3, h4, h5⟩
    exact ⟨h1, PA, pc, B, h2, h3, h4, h5.mono fun k _ q => ⟨.inr (q.1.resolve_left id), q.2⟩⟩
  · exact path_asked g A c xs a T w hp h

/-- A row of choices, somewhere apart. -/
def CRow (w : World) (A : Option Addr) (bs : List (Int × Int)) (T : Nat → Prop) : Prop := DRow w w.heap.size A bs ∧ (bs ≠ [] → ∀ ad, A = some ad → T ad.block)
theorem CRow.kept {S : Nat → Prop} {w w' : World} {A : Option Addr} {bs : List (Int × Int)} {T : Nat → Prop} (h : CRow w A bs T) (k : Kept S w w') (hS : ∀ i, T i → ¬ S i) : CRow w' A bs T := by
  refine ⟨fun i b hi => ?_, h.2⟩
  obtain ⟨ad, P, c, e, h1, h2, h3, h4, h5⟩ := h.1 i b hi
  have hb : (ad.add (i * 3)).block = ad.block := add_blockN _ _
  have hne : bs ≠ [] := fun e => by rw [e] at hi; simp at hi
  have hk := k.block ad.block h1 (hS _ (h.2 hne ad e))
  refine ⟨ad, P, c, e, Nat.lt_of_lt_of_le h1 k.size, h2, ?_, ?_, ?_⟩
  · rw [← h3]; exact World.cell?_of_block (by rw [hb]; exact hk)
  · rw [← h4]; exact World.cell?_of_block (by show w'.heap[(ad.add (i * 3)).block]? = _; rw [hb]; exact hk)
  · rw [← h5]; exact World.cell?_of_block (by show w'.heap[(ad.add (i * 3)).block]? = _; rw [hb]; exact hk)
theorem CRow.mono {w : World} {A : Option Addr} {bs : List (Int × Int)} {T T' : Nat → Prop} (h : CRow w A bs T) (hT : ∀ k, k < w.heap.size → T k → T' k) : CRow w A bs T' := by
  refine ⟨h.1, fun hne ad e => hT _ ?_ (h.2 hne ad e)⟩
  obtain ⟨x, r, hx⟩ := ne_cons hne
  obtain ⟨ad', P, c, e', hb, -⟩ := h.1 0 x (by rw [hx]; rfl)
  rw [e] at e'
  cases e'
  exact hb

/-- What the inner loop holds. -/
structure MI (B g : Nat) (A : Option Addr) (c : Nat) (xs : List Nd) (a : Nat) (CA : Option Addr) (J : List Mt → (Nat → Prop) → World → Prop) (L : List Mt) (Φ : Nat → Prop) (W : World) : Prop where
  j : J L Φ W
  lo : B ≤ g
  hi : g < W.heap.size
  no : ¬ Φ g
  site : Fresh W g A c xs a ∨ Asked W g A c xs a (fun k => B ≤ k ∧ k ≠ g ∧ ¬ Φ k)
  row : CRow W CA (chs xs a) (fun k => B ≤ k ∧ k ≠ g ∧ ¬ Φ k)
/-- What it holds when a mutant is told. -/
structure MM (B g : Nat) (A : Option Addr) (c : Nat) (xs : List Nd) (a : Nat) (CA : Option Addr) (J : List Mt → (Nat → Prop) → World → Prop) (L : List Mt) (Φ : Nat → Prop) (PA : Option Addr) (W : World) : Prop where
  j : J L Φ W
  lo : B ≤ g
  hi : g < W.heap.size
  no : ¬ Φ g
  site : Asked W g A c xs a (fun k => B ≤ k ∧ k ≠ g ∧ ¬ Φ k ∧ ∀ ad, PA = some ad → k ≠ ad.block)
  row : CRow W CA (chs xs a) (fun k => B ≤ k ∧ k ≠ g ∧ ¬ Φ k ∧ ∀ ad, PA = some ad → k ≠ ad.block)
  pa : ∀ ad, PA = some ad → B ≤ ad.block ∧ ¬ Φ ad.block ∧ ad.block ≠ g

section
variable {B Bb g : Nat} {A : Option Addr} {c : Nat} {xs : List Nd} {a : Nat} {CA : Option Addr} {J : List Mt → (Nat → Prop) → World → Prop} {L : List Mt} {Φ : Nat → Prop} {W : World}
/-- The box of one: the path is asked for. -/
theorem MI.ask (h : MI B g A c xs a CA J L Φ W) (hH : MHeld B Bb A c xs J) (o : Obj) :
    (Fresh (W.alloc o) g A c xs a ∨ Asked (W.alloc o) g A c xs a (fun k => k < W.heap.size ∧ B ≤ k ∧ k ≠ g ∧ ¬ Φ k)) ∧ Nodes (W.alloc o) g A xs := by
  obtain ⟨-, -, hn⟩ := hH.body _ _ _ h.j
  have hb : Below W.heap.size W (W.alloc o) := (Below.refl _ _).alloc (Nat.le_refl _) o
  refine ⟨?_, ?_⟩
  · rcases h.site with q | q
    · exact .inl (Blk.alloc q o)
    · exact .inr ((q.mono fun k hk ht => ⟨hk, ht⟩).kept (S := (W.heap.size ≤ ·)) (Kept.of_below hb (Nat.le_refl _)) (by have := h.hi; omega) (fun i q => by omega))
  · intro i x hx
    obtain ⟨ad, e, h1, h2⟩ := (hn.below (hb.mono (hH.lt _ _ _ h.j).1)) i x hx
    exact ⟨ad, e, Nat.lt_of_lt_of_le h1 h.lo, h2⟩
/-- The path has come, and is put into the box. -/
theorem MI.told (h : MI B g A c xs a CA J L Φ W) (hH : MHeld B Bb A c xs J) (hl : (ppath xs a).length ≤ 1000000) {o : Obj} {W3 : World} {PA : Option Addr} {pc B' : Nat} (hk : Kept (· = g) (W.alloc o) W3) (hB : (W.alloc o).heap.size ≤ B') (hr : NewRow W3 B' PA pc (ppath xs a))
    (hs : Asked W3 g A c xs a (fun k => ((k < W.heap.size ∧ B ≤ k ∧ k ≠ g ∧ ¬ Φ k) ∨ (W.alloc o).heap.size ≤ k) ∧ k < B')) (v : Value) (op n : Int) :
    MM B g A c xs a CA J L Φ PA (W3.setCell ⟨W.heap.size, 0, none⟩ v) ∧ (dl PA pc (ppath xs a, op, n)).Ok (W3.setCell ⟨W.heap.size, 0, none⟩ v) := by
  rw [World.size_alloc] at hB hs
  have hlt := hH.lt _ _ _ h.j
  have hg := h.hi
  have hlo := h.lo
  have k4 : Kept (· = W.heap.size) W3 (W3.setCell ⟨W.heap.size, 0, none⟩ v) := (Kept.refl (· = W.heap.size) W3).setCell (p := ⟨W.heap.size, 0, none⟩) (.inl rfl) v
  have kA : Kept (fun k => k = g ∨ k = W.heap.size) W (W3.setCell ⟨W.heap.size, 0, none⟩ v) := (((Kept.refl _ _).alloc o).trans (hk.mono fun k e => .inl e)).trans (k4.mono fun k e => .inr e)
  have hsz := kA.size
  have hp4 : ∀ ad, PA = some ad → W.heap.size + 1 ≤ ad.block := fun ad e => Nat.le_trans hB (hr.2.2.2 ad e)
  refine ⟨⟨?_, h.lo, by omega, h.no, ?_, ?_, ?_⟩, ⟨IRow.kept hr.2.2.1 k4 (fun ad e q => by have := hp4 ad e; omega), hl, hr.1, hr.2.1⟩⟩
  · refine hH.stay _ _ _ _ h.j ((((Kept.refl _ _).alloc o).trans (hk.mono ?_)).setCell (.inr (Nat.le_refl _)) v)
    rintro k rfl
    exact ⟨h.lo, h.no⟩
  · refine (hs.kept k4 (by omega) ?_).mono ?_
    · rintro i ⟨q | q, -⟩ <;> omega
    · rintro k - ⟨q | q, qB⟩
      · exact ⟨q.2.1, q.2.2.1, q.2.2.2, fun ad e z => by have := hr.2.2.2 ad e; omega⟩
      · exact ⟨by omega, by omega, fun z => by have := hlt.2 k z; omega, fun ad e z => by have := hr.2.2.2 ad e; omega⟩
  · refine ((h.row.mono fun k hk ht => (⟨hk, ht⟩ : k < W.heap.size ∧ B ≤ k ∧ k ≠ g ∧ ¬ Φ k)).kept kA ?_).mono ?_
    · rintro i ⟨q1, q2, q3, q4⟩ (z | z) <;> omega
    · rintro k - ⟨q1, q2, q3, q4⟩
      exact ⟨q2, q3, q4, fun ad e z => by have := hp4 ad e; omega⟩
  · intro ad e
    have := hp4 ad e
    exact ⟨by omega, fun z => by have := hlt.2 _ z; omega, by omega⟩
/-- The loop has taken it. -/
theorem MM.took {PA : Option Addr} (h : MM B g A c xs a CA J L Φ PA W) {L' : List Mt} {Φ' : Nat → Prop} {W' : World} {m : Mt} (hj : J L' Φ' W') (hk : Kept (fun k => k < B ∨ Φ k) W W') (hΦ : ∀ k, Φ' k → Φ k ∨ W.heap.size ≤ k ∨ (m.1 ≠ [] ∧ ∃ ad, PA = some ad ∧ k = ad.block)) : MI B g A c xs a CA J L' Φ' W' := by
  have hlo := h.lo
  have hhi := h.hi
  have hno := h.no
  have key : ∀ k, k < W.heap.size → (B ≤ k ∧ k ≠ g ∧ ¬ Φ k ∧ ∀ ad, PA = some ad → k ≠ ad.block) → B ≤ k ∧ k ≠ g ∧ ¬ Φ' k := by
    rintro k hk ⟨q1, q2, q3, q4⟩
    refine ⟨q1, q2, fun z => ?_⟩
    rcases hΦ k z with z | z | ⟨-, ad, e, z⟩
    · exact q3 z
    · omega
    · exact q4 ad e z
  refine ⟨hj, h.lo, Nat.lt_of_lt_of_le h.hi hk.size, ?_, .inr ?_, ?_⟩
  · intro z
    rcases hΦ g z with z | z | ⟨-, ad, e, z⟩
    · exact hno z
    · omega
    · exact (h.pa ad e).2.2 z.symm
  · refine ((h.site.mono (T' := fun k => (B ≤ k ∧ k ≠ g ∧ ¬ Φ' k) ∧ ¬ Φ k) fun k hk ht => ⟨key k hk ht, ht.2.2.1⟩).kept hk ?_ ?_).mono fun k _ ht => ht.1
    · rintro (z | z)
      · omega
      · exact hno z
    · rintro i ⟨⟨q1, -, -⟩, q2⟩ (z | z)
      · omega
      · exact q2 z
  · refine ((h.row.mono (T' := fun k => (B ≤ k ∧ k ≠ g ∧ ¬ Φ' k) ∧ ¬ Φ k) fun k hk ht => ⟨key k hk ht, ht.2.2.1⟩).kept hk ?_).mono fun k _ ht => ht.1
    rintro i ⟨⟨q1, -, -⟩, q2⟩ (z | z)
    · omega
    · exact q2 z
end

theorem mupto_pre (xs : List Nd) : ∀ k m, mupto xs k <+: mupto xs (k + m)
  | k, 0 => List.prefix_refl _
  | k, m + 1 => (mupto_pre xs k m).trans (by rw [show k + (m + 1) = (k + m) + 1 from rfl, mupto_succ]; exact List.prefix_append _ _)
theorem mupto_take {xs : List Nd} {a : Nat} (h : a < xs.length) (j : Nat) : mupto xs a ++ (mat xs a).take j <+: msites xs := by
  have h1 : mupto xs a ++ (mat xs a).take j <+: mupto xs (a + 1) := by
    rw [mupto_succ, List.prefix_append_right_inj]
    exact List.take_prefix _ _
  have h2 := mupto_pre xs (a + 1) (xs.length - (a + 1))
  rw [show a + 1 + (xs.length - (a + 1)) = xs.length by omega] at h2
  exact h1.trans h2
set_option maxRecDepth 100000 in
set_option maxHeartbeats 4000000 in
theorem mutants1_in (lp B Bb : Nat) (A : Option Addr) (c : Nat) (xs : List Nd) (J : List Mt → (Nat → Prop) → World → Prop) (W : World) (hw : Whole xs) (hl : xs.length ≤ 1000000) (Φ₀ : Nat → Prop) (h0 : J [] Φ₀ W) (hH : MHeld B Bb A c xs J) (hY : MFeeds lp B (msites xs) J) :
    CallsIn Fence.wide 3 Tryz.prog 57 #[.func (.yield lp) #[] #[], .pointer (some ⟨Bb, 0, none⟩)] W fun e W' => (∃ v, e = .returned v) ∧ ∃ Φ, J (msites xs) Φ W' := by
  obtain ⟨hc, hBb, hx⟩ := hH.body _ _ _ h0
  have HPL := Lib.hid (fun (a : Nat) (ha : a < xs.length) => (leads_ppath hw ha).rng.2)
  have HCL := Lib.hid (fun a : Nat => (chs_row xs a).2.1)
  have hf1 : Fence.wide.fn 27 := trivial
  have hf2 : Fence.wide.fn 58 := trivial
  have HH := Lib.hid hH
  have HY := Lib.hid hY
  clear hY hx
  refine callsIn_of_wp Tryz.func57 rfl trivial ?_ rfl
  simp only [Tryz.ntmps57, List.size_toArray, List.length_cons, List.length_nil, Nat.reduceAdd, Nat.reduceSub, Array.replicate_succ, Array.replicate_zero, List.push_toArray, List.append_toArray, List.nil_append, List.cons_append]
  gi_wp2
  gi_loopw [9] (fun i wr => ∃ (a : Nat) (Φ : Nat → Prop), a ≤ xs.length ∧ i = .int .i64 a ∧ J (mupto xs a) Φ wr) (fun i _ => xs.length - (intOf i).toNat)
  case atStart => exact ⟨0, Φ₀, by omega, rfl, h0⟩
  case round =>
    obtain ⟨a, Φ, ha, rfl, hJ⟩ := hrel
    obtain ⟨hc, hBb, hx⟩ := HH.out.body _ _ _ hJ
    obtain ⟨hlB, hΦ⟩ := HH.out.lt _ _ _ hJ
    by_cases hlt : a < xs.length
    · have i1 : (a : Int) < (xs.length : Int) := by omega
      have hb1 : Below wr.heap.size wr (wr.alloc (.cells (scells A xs.length c a 0 0 (.slice none 0 0)) 98)) := (Below.refl _ _).alloc (Nat.le_refl _) _
      have bS := Blk.new wr 98 (scells A xs.length c a 0 0 (.slice none 0 0))
      have hx1 := hx.below (hb1.mono hlB)
      have hc1 := (hb1.cell (p := ⟨Bb, 0, none⟩) (by show Bb < _; omega)).trans hc
      have hs1 : (wr.alloc (.cells (scells A xs.length c a 0 0 (.slice none 0 0)) 98)).heap.size = wr.heap.size + 1 := World.size_alloc _ _
      have HC := Lib.hid ((callsIn_wide (n := 2)).2 (Cat.Choices_anyF A c xs a (wr.alloc (.cells (scells A xs.length c a 0 0 (.slice none 0 0)) 98)) (by rw [hs1]; intro i x h; obtain ⟨ad, e, h1, h2⟩ := hx1 i x h; exact ⟨ad, e, by omega, h2⟩) (by omega)))
      simp only [scells] at hc1 HC
      gi_wp2_with (gi_at_call 27; refine HC.out.mono ?_; rintro e w4 ⟨hb4, CA, cc, rfl, hcc, hCA, hcr, hcf⟩)
      have hI0 : MI B wr.heap.size A c xs a CA J (mupto xs a) Φ w4 := by
        have k4 : Kept (fun k => wr.heap.size + 1 ≤ k) (wr.alloc (.cells (scells A xs.length c a 0 0 (.slice none 0 0)) 98)) w4 := Kept.of_below hb4 (Nat.le_refl _)
        have kA := ((Kept.refl (fun k => B ≤ k ∧ ¬ Φ k) wr).alloc (.cells (scells A xs.length c a 0 0 (.slice none 0 0)) 98)).below hb4
        have hz := hb4.size
        rw [World.size_alloc] at hz
        refine ⟨HH.out.stay _ _ _ _ hJ kA, hlB, by omega, fun q => by have := hΦ _ q; omega, .inl (Blk.below bS hb4 bS.lt), ⟨hcr, fun _ ad e => ?_⟩⟩
        have := hcf ad e
        rw [World.size_alloc] at this
        exact ⟨by omega, by omega, fun q => by have := hΦ _ q; omega⟩
      have HI0 := Lib.hid hI0
      have hpl : (ppath xs a).length ≤ 1000000 := by have := HPL.out a hlt; omega
      generalize wr.heap.size = g at *
      clear hI0 hb4 hcr hcf bS hx1 hc1 hs1 HC hb1 hx hJ hΦ hlB hc
      gi_loopw [19] (fun i wr => ∃ (j : Nat) (Φ : Nat → Prop), j ≤ (chs xs a).length ∧ i = .int .i64 j ∧ MI B g A c xs a CA J (mupto xs a ++ (mat xs a).take j) Φ wr) (fun i _ => (chs xs a).length - (intOf i).toNat)
      case atStart => exact ⟨0, Φ, by omega, rfl, by rw [List.take_zero, List.append_nil]; exact HI0.out⟩
      case round =>
        obtain ⟨j, Φ, hj, rfl, hI⟩ := hrel
        by_cases hlt2 : j < (chs xs a).length
        · obtain ⟨⟨op, n⟩, hbn⟩ : ∃ b, (chs xs a)[j]? = some b := ⟨_, List.getElem?_eq_getElem hlt2⟩
          have hst : mupto xs a ++ (mat xs a).take (j + 1) = (mupto xs a ++ (mat xs a).take j) ++ [(ppath xs a, op, n)] := by rw [mat_step hbn, List.append_assoc]
          have hpre : (mupto xs a ++ (mat xs a).take j) ++ [(ppath xs a, op, n)] <+: msites xs := by rw [← hst]; exact mupto_take hlt _
          have HST := Lib.hid hst
          obtain ⟨ad, P0, c0, rfl, hadb, -, k0, k1, k2⟩ := hI.row.1 j _ hbn
          simp only at k1 k2
          have hask := hI.ask HH.out (.cells #[.slice P0 0 c0, .int .i64 op, .int .i64 n] 34)
          have HA := Lib.hid ((callsIn_wide (n := 2)).2 (path_any g A c xs a _ _ hw hlt hl hpl hask.1 hask.2))
          have bX := Blk.new wr 34 #[.slice P0 0 c0, .int .i64 op, .int .i64 n]
          have HX := Lib.hid (fun W (hk : Kept (· = g) (wr.alloc (.cells #[.slice P0 0 c0, .int .i64 op, .int .i64 n] 34)) W) => bX.kept hk (by have := hI.hi; omega))
          have HI := Lib.hid hI
          have HP := Lib.hid hpre
          have hgx : g < wr.heap.size := hI.hi
          generalize mupto xs a ++ (mat xs a).take j = L at *
          have i3 : (j : Int) < ((chs xs a).length : Int) := by omega
          have i4 : (0 : Int) ≤ (j : Int) := by omega
          have hcl := HCL.out a
          clear hI hst hbn hask bX hpre hlt2
          gi_wp2_with (gi_at_call 58; refine HA.out.mono ?_; rintro e w5 ⟨hk5, PA, pc, B', hB', rfl, hr5, hs5⟩
                       have hb5 := HX.out _ hk5
                       have f5 := hb5.frozen 0
                       have c5 := hb5.cell 0
                       have hb6 := hb5.set 0 (.slice PA (ppath xs a).length pc)
                       have d0 := hb6.cell 0
                       have d1 := hb6.cell 1
                       have d2 := hb6.cell 2
                       have htold := HI.out.told HH.out hpl hk5 hB' hr5 hs5 (.slice PA (ppath xs a).length pc) op n
                       have HT := Lib.hid htold
                       have hYk := HY.out L (ppath xs a, op, n) Φ PA pc _ htold.1.j htold.2 (fun _ ad e => ⟨(htold.1.pa ad e).1, (htold.1.pa ad e).2.1⟩) HP.out
                       obtain ⟨fn, tmps, assign, body, hy, hR⟩ := hYk
                       change Sem.run Tryz.prog (Instr.yield lp #[.agg #[.slice PA (ppath xs a).length pc, .int .i64 op, .int .i64 n]]) _ = _ at hy
                       clear hk5 hB' hr5 hs5 hb5 hb6 htold)
          refine hR.mono ?_
          rintro e w7 ⟨rfl, Φ', hJ', hK', hΦ'⟩
          have HI7 := Lib.hid (HT.out.1.took (m := (ppath xs a, op, n)) hJ' hK' hΦ')
          clear hR hy hJ' hK' hΦ'
          gi_wp2
          go_roundw
          case rel => exact ⟨j + 1, Φ', by omega, by go_num, by rw [HST.out]; exact HI7.out⟩
          case measure => simp [intOf]; omega
        · obtain rfl : j = (chs xs a).length := by omega
          have i3 : ¬ ((chs xs a).length : Int) < ((chs xs a).length : Int) := by omega
          rw [show (mat xs a).take (chs xs a).length = mat xs a by rw [← mat_len, List.take_length], ← mupto_succ] at hI
          have HJ2 := Lib.hid hI.j
          clear hI
          gi_wp2
          go_roundw
          case rel => exact ⟨a + 1, Φ, by omega, by go_num, HJ2.out⟩
          case measure => simp [intOf]; omega
    · obtain rfl : a = xs.length := by omega
      have i1 : ¬ (xs.length : Int) < (xs.length : Int) := by omega
      gi_wp2
      go_end0
      exact ⟨⟨_, rfl⟩, Φ, hJ⟩

end Go.Proofs.YtofhgaioidfdmaaGreat.Sites
