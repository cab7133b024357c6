/-
  Package sites, walked: all mutants of a program, by a range over the iterator.
-/
import Derived.Test.YtofhgaioidfdmaaGreatSitesPIter
import Derived.Test.YtofhgaioidfdmaaGreatKindsP
import Derived.Maps.OwnIn
set_option linter.unusedVariables false
namespace Go.Proofs.YtofhgaioidfdmaaGreat.Sites
open Go.RowKit Go.Shelf Mem _root_.Go.Proofs.YtofhgaioidfdmaaGreat.Arena _root_.Go.Proofs.YtofhgaioidfdmaaGreat.Delta _root_.Go.Proofs.YtofhgaioidfdmaaGreat.Path _root_.Go.Proofs.YtofhgaioidfdmaaGreat.Cat _root_.Go.Proofs.YtofhgaioidfdmaaGreat.Kinds _root_.Go.Proofs.YtofhgaioidfdmaaGreat.RangeO

attribute [local go_sem] Oper.semAt_some

/-- ONE ROUND, whose variable lies in a cell of its own. -/
theorem yieldAt_of2 {F : Fence} {P : Program} {l m : Nat} {fn : FuncId} {tmps : Array Value} {ps : Array Tmp} {assign body : Code} {D : Nat} {W : World} {args : Array Value} {R : Ending → World → Prop} {Go_ : World → Prop} {St : Code → World → Prop}
    (hl : W.heap[l]? = some (.loop (recd fn tmps ps assign body D .ready none))) (hfn : F.fn fn) (hsz : args.size = ps.size)
    (h : assign.wpIn (F.inRound l) m P (Exit.then (fun a₁ W₁ => W₁.heap[l]? = some (.loop (recd fn tmps ps assign body D .ready none)) ∧ ∀ W₂, Kept (· = l) W₁ W₂ → W₂.heap.size = W₁.heap.size → W₂.heap[l]? = some (.loop (recd fn tmps ps assign body D .busy none)) → body.wpIn (F.inRound l) m P (outPost l (recd fn tmps ps assign body D .busy none) Go_ St) a₁ W₂) (fun _ _ _ => False))
      { tmps := (ps.zip args).foldl (fun t (p, v) => t.setIfInBounds p v) tmps, defers := [] } W)
    (hgo : ∀ W₁ W₂, Go_ W₁ → Kept (· = l) W₁ W₂ → W₂.heap[l]? = some (.loop (recd fn tmps ps assign body D .ready none)) → R (.returned (.bool true)) W₂)
    (hst : ∀ c W₁ W₂, St c W₁ → Kept (· = l) W₁ W₂ → W₂.heap[l]? = some (.loop (recd fn tmps ps assign body D .done (some c))) → R (.returned (.bool false)) W₂) :
    YieldAt F m P l args W R := by
  have hy := run_yield (P := P) (args := args) hl hsz
  refine ⟨fn, _, assign, body, hy, roundIn_of_wpIn hfn (wpIn_mono h ?_)⟩
  rintro e a₁ W₁ hp
  cases e with
  | normal =>
    obtain ⟨hl1, hbody⟩ := hp
    have hlt : l < W₁.heap.size := (Array.getElem?_eq_some_iff.1 hl1).1
    refine ⟨_, run_beginRound hl1 rfl, wpIn_mono (hbody _ (kept_putObj _ _ _) (by simp [World.putObj]) (World.putObj_heap_same hlt)) ?_⟩
    have fin : ∀ (jump : Option Code) (W3 : World), W3.heap[l]? = some (.loop (recd fn tmps ps assign body D .busy none)) →
        (Instr.endRound l jump).run P W3 = .ok (.bool jump.isNone) (W3.putObj l (.loop (recd fn tmps ps assign body D (if jump.isNone then .ready else .done) jump))) ∧
        (W3.putObj l (.loop (recd fn tmps ps assign body D (if jump.isNone then .ready else .done) jump))).heap[l]? = some (.loop (recd fn tmps ps assign body D (if jump.isNone then .ready else .done) jump)) := fun jump W3 hl3 =>
      ⟨run_endRound (P := P) jump hl3, World.putObj_heap_same (Array.getElem?_eq_some_iff.1 hl3).1⟩
    rintro e a3 W3 hp
    cases e with
    | normal => exact ⟨_, _, (fin none W3 hp.1).1, hgo _ _ hp.2 (kept_putObj _ _ _) (fin none W3 hp.1).2⟩
    | ret => exact ⟨_, _, (fin (some .ret) W3 hp.1).1, hst _ _ _ hp.2 (kept_putObj _ _ _) (fin (some .ret) W3 hp.1).2⟩
    | exit id => exact ⟨_, _, (fin (some (.exit id)) W3 hp.1).1, hst _ _ _ hp.2 (kept_putObj _ _ _) (fin (some (.exit id)) W3 hp.1).2⟩
    | goto t => exact ⟨_, _, (fin (some (.goto t)) W3 hp.1).1, hst _ _ _ hp.2 (kept_putObj _ _ _) (fin (some (.goto t)) W3 hp.1).2⟩
    | panic ch => exact hp.elim
    | outgrown => exact hp.elim
  | exit id => exact hp.elim
  | goto t => exact hp.elim
  | ret => exact hp.elim
  | panic chain => exact hp.elim
  | outgrown => exact hp.elim

/-- A row of mutants that the call owns, and whose paths are of a set. -/
def MOwnF (w : World) (base : Nat) (v : Value) (L : List Mt) (Φ : Nat → Prop) : Prop :=
  ∃ Y : List ((Option Addr × Nat) × Mt), Y.map (·.2) = L ∧ w.ownsRow base 34 3 v L.length (mcells Y) ∧ (∀ y ∈ Y, (dl y.1.1 y.1.2 y.2).Ok w ∧ (y.2.1 ≠ [] → ∀ ad, y.1.1 = some ad → v.ownBlock ≠ some ad.block ∧ Φ ad.block)) ∧ ∀ k, v.ownBlock = some k → Φ k
theorem MOwnF.own {w : World} {base : Nat} {v : Value} {L : List Mt} {Φ : Nat → Prop} (h : MOwnF w base v L Φ) : MOwn w base v L := by
  obtain ⟨Y, h1, h2, h3, -⟩ := h
  exact ⟨Y, h1, h2, fun y hy => ⟨(h3 y hy).1, fun q ad e => ((h3 y hy).2 q ad e).1⟩⟩
theorem MOwnF.kept {S : Nat → Prop} {w w' : World} {base : Nat} {v : Value} {L : List Mt} {Φ : Nat → Prop} (h : MOwnF w base v L Φ) (k : Kept S w w') (hS : ∀ i, Φ i → ¬ S i) : MOwnF w' base v L Φ := by
  obtain ⟨Y, h1, h2, h3, h4⟩ := h
  refine ⟨Y, h1, own_of_block h2 (fun i hi => k.block i (h2.lt i hi).2 (hS _ (h4 i hi))), fun y hy => ⟨?_, (h3 y hy).2⟩, h4⟩
  obtain ⟨k1, k2⟩ := h3 y hy
  refine ⟨?_, k1.len, k1.cap, k1.none⟩
  by_cases hp : y.2.1 = []
  · intro i x hx
    rw [show (dl y.1.1 y.1.2 y.2).p = y.2.1 from rfl, hp] at hx
    simp at hx
  · exact IRow.kept k1.path k (fun ad e => hS _ (k2 hp ad e).2)
theorem MOwnF.mono {w : World} {base : Nat} {v : Value} {L : List Mt} {Φ Φ' : Nat → Prop} (h : MOwnF w base v L Φ) (hΦ : ∀ k, Φ k → Φ' k) : MOwnF w base v L Φ' := by
  obtain ⟨Y, h1, h2, h3, h4⟩ := h
  exact ⟨Y, h1, h2, fun y hy => ⟨(h3 y hy).1, fun q ad e => ⟨((h3 y hy).2 q ad e).1, hΦ _ ((h3 y hy).2 q ad e).2⟩⟩, fun k e => hΦ k (h4 k e)⟩

/-- A delta is put behind such a row: as it runs. -/
theorem run_append_mtF (w : World) (ty : TypeId) (base : Nat) (hbase : base ≤ w.heap.size) (v : Value) (L : List Mt) (Φ : Nat → Prop) (hown : MOwnF w base v L Φ) (hlt : ∀ k, Φ k → k < w.heap.size)
    (g : Nat) (z : Option Addr × Nat) (m : Mt) (hb : Blk w g 34 (mcell z m).toArray) (hlen : L.length + 1 ≤ 100000000)
    (hok : (dl z.1 z.2 m).Ok w) (hne : m.1 ≠ [] → ∀ ad, z.1 = some ad → ¬ Φ ad.block) :
    ∃ v' w', (Builtin.append_ #[28, 28] ty #[v, .slice (some ⟨g, 0, none⟩) 1 1]).run Tryz.prog w = .ok v' w' ∧ w.grownBy w' v.ownBlock ∧ (v'.ownBlock = v.ownBlock ∨ v'.ownBlock = some w.heap.size) ∧
      MOwnF w' base v' (L ++ [m]) (fun k => Φ k ∨ k = w.heap.size ∧ v'.ownBlock = some k ∨ m.1 ≠ [] ∧ ∃ ad, z.1 = some ad ∧ k = ad.block) := by
  obtain ⟨Y, hY, hO, hYok, hvΦ⟩ := hown
  obtain ⟨ig, hig, hz0, hz1, hz2⟩ := info_parts info_delta
  obtain ⟨v', w', hr, hown', hg, -, hat⟩ := run_append_own_at (P := Tryz.prog) w base 28 ty 34 ig _ 3 40 Tryz.underlying28 hig hz0 hz1 hz2 rfl (by decide) v L.length (mcells Y) hO ⟨g, 0, none⟩ 1 1 (mcell z m) rfl (by
    intro j u hu
    have := hb.cell j
    rw [show (⟨g, 0, none⟩ : Addr).add j = ⟨g, j, none⟩ by unfold Addr.add; split <;> simp_all]
    rw [this]
    simpa using hu) (by
    intro u hu
    unfold mcell at hu
    simp only [List.mem_cons, List.not_mem_nil, or_false] at hu
    rcases hu with rfl | rfl | rfl <;> rfl) (by simp only [maxLen]; omega) (by omega) hbase
  refine ⟨v', w', hr, hg, hat, Y ++ [(z, m)], by rw [List.map_append, hY]; rfl, by rw [mcells_snoc, List.length_append]; exact hown', fun y hy => ?_, fun k e => ?_⟩
  · have key : (dl y.1.1 y.1.2 y.2).Ok w ∧ (y.2.1 ≠ [] → ∀ ad, y.1.1 = some ad → v.ownBlock ≠ some ad.block ∧ (Φ ad.block ∨ m.1 ≠ [] ∧ ∃ ad', z.1 = some ad' ∧ ad.block = ad'.block)) := by
      rcases List.mem_append.1 hy with hy | hy
      · exact ⟨(hYok y hy).1, fun q ad e => ⟨((hYok y hy).2 q ad e).1, .inl ((hYok y hy).2 q ad e).2⟩⟩
      · rw [List.mem_singleton] at hy
        subst hy
        exact ⟨hok, fun q ad e => ⟨fun e' => hne q ad e (hvΦ _ e'), .inr ⟨q, ad, e, rfl⟩⟩⟩
    obtain ⟨k1, k2⟩ := key
    refine ⟨⟨irow_grown k1.path hg (fun hp ad e => (k2 hp ad e).1), k1.len, k1.cap, k1.none⟩, fun hp ad e => ?_⟩
    have hΦ' := (k2 hp ad e).2
    refine ⟨?_, hΦ'.imp_right .inr⟩
    rcases hat with q | q
    · rw [q]; exact (k2 hp ad e).1
    · rw [q]
      intro zz
      have z' : w.heap.size = ad.block := Option.some.inj zz
      obtain ⟨x0, r, hxr⟩ := ne_cons hp
      obtain ⟨ad', e', hb', -⟩ := k1.path 0 x0 (by show y.2.1[0]? = some x0; rw [hxr]; rfl)
      have e2 : some ad = some ad' := e.symm.trans e'
      cases e2
      omega
  · rcases hat with q | q
    · exact .inl (hvΦ k (q ▸ e))
    · exact .inr (.inl ⟨by rw [q] at e; exact (Option.some.inj e).symm, e⟩)

/-- At the list of a region within a fence. -/
theorem append_mtIn {F : Fence} {nF : Nat} {w : World} {ops : Array Oper} {rest : List Oper} {o : Oper} {a : Act} {Q : Exit → Act → World → Prop} (hgd : o.guard = none) (s x : Operand)
    (ho : o.op = .call { callee := .builtin .append, args := #[s, x], argTypes := #[28, 28] })
    (base : Nat) (hbase : base ≤ w.heap.size) (v : Value) (L : List Mt) (Φ : Nat → Prop) (hs : a.eval s = v) (hown : MOwnF w base v L Φ) (hlt : ∀ k, Φ k → k < w.heap.size)
    (g : Nat) (z : Option Addr × Nat) (m : Mt) (hx : a.eval x = .slice (some ⟨g, 0, none⟩) 1 1) (hb : Blk w g 34 (mcell z m).toArray) (hlen : L.length + 1 ≤ 100000000)
    (hok : (dl z.1 z.2 m).Ok w) (hne : m.1 ≠ [] → ∀ ad, z.1 = some ad → ¬ Φ ad.block)
    (h : ∀ v' w', w.grownBy w' v.ownBlock → (v'.ownBlock = v.ownBlock ∨ v'.ownBlock = some w.heap.size) → MOwnF w' base v' (L ++ [m]) (fun k => Φ k ∨ k = w.heap.size ∧ v'.ownBlock = some k ∨ m.1 ≠ [] ∧ ∃ ad, z.1 = some ad ∧ k = ad.block) → wpListIn F nF Tryz.prog ops Q rest (a.put o.dst v') w') :
    wpListIn F nF Tryz.prog ops Q (o :: rest) a w := by
  obtain ⟨v', w', hr, h1, h2, h3⟩ := run_append_mtF w o.type base hbase v L Φ hown hlt g z m hb hlen hok hne
  refine wpListIn_plain hgd fun K hK => ?_
  unfold Oper.wpIn
  refine ⟨by simp [Oper.about, ho, resolve, Target.leads, Sem.run_pure], ?_⟩
  rw [Oper.semAt_plain F _ _ (by rw [ho]; intro c hc'; cases hc')]
  simp [execOp, ho, resolve, invoke, builtin, hs, hx, hr, Result.andThen]
  exact hK _ _ (h v' w' h1 h2 h3)

set_option maxHeartbeats 1000000 in
theorem mutants_any (A : Option Addr) (k c : Nat) (w : World) : Calls Tryz.prog 30 #[.slice A k c] w fun e w' => e = .returned (.func (.func 57) #[] #[.pointer (some ⟨w.heap.size, 0, none⟩)]) ∧ w' = w.alloc (.cells #[.slice A k c] 23) := by
  go_enter Tryz.func30, Tryz.ntmps30
  go_wp2
  go_ret
  exact ⟨rfl, rfl⟩

/-- What the loop over all mutants holds, but for its record. -/
structure MJA (w : World) (ball Bb D : Nat) (B : Option Addr) (ce : Nat) (xs : List Nd) (pre : List Mt) (Φ : Nat → Prop) (W : World) : Prop where
  mark : W.heap[D]? = some (.deferred (some []))
  cap : Blk W Bb 23 #[.slice B xs.length ce]
  below : Below w.heap.size w W
  size : D + 2 ≤ W.heap.size
  lt : ∀ k, Φ k → D + 2 ≤ k ∧ k < W.heap.size
  all : ∃ v, Blk W ball 28 #[v] ∧ MOwnF W (D + 2) v pre Φ
theorem MJA.kept {w : World} {ball Bb D : Nat} {B : Option Addr} {ce : Nat} {xs : List Nd} {pre : List Mt} {Φ : Nat → Prop} {X Y : World} {S : Nat → Prop} (h : MJA w ball Bb D B ce xs pre Φ X) (k : Kept S X Y) (h1 : ball < D) (h2 : Bb < D) (h3 : w.heap.size ≤ D) (hS : ∀ i, S i → D < i ∧ ¬ Φ i) : MJA w ball Bb D B ce xs pre Φ Y := by
  obtain ⟨q1, q2, q3, q4, q5, v, q6, q7⟩ := h
  refine ⟨(k.block _ (Array.getElem?_eq_some_iff.1 q1).1 (fun z => by have := hS _ z; omega)).trans q1, q2.kept k (fun z => by have := hS _ z; omega), q3.trans (k.to_below q3.size (fun i z => by have := hS _ z; omega)), Nat.le_trans q4 k.size, fun i z => ⟨(q5 i z).1, Nat.lt_of_lt_of_le (q5 i z).2 k.size⟩, v, q6.kept k (fun z => by have := hS _ z; omega), q7.kept k (fun i z y => (hS i y).2 z)⟩

/-- One more has come. -/
theorem MJA.step {w : World} {ball Bb D : Nat} {B : Option Addr} {ce : Nat} {xs : List Nd} {pre : List Mt} {Φ : Nat → Prop} {W W7 : World} {v v7 : Value} {o : Obj} {z : Option Addr × Nat} {m : Mt}
    (j1 : W.heap[D]? = some (.deferred (some []))) (j2 : Blk W Bb 23 #[.slice B xs.length ce]) (j3 : Below w.heap.size w W) (j4 : D + 2 ≤ W.heap.size) (j5 : ∀ k, Φ k → D + 2 ≤ k ∧ k < W.heap.size) (j6 : Blk W ball 28 #[v])
    (h1 : ball < D) (h2 : Bb < D) (h3 : w.heap.size ≤ ball) (h4 : Bb ≠ ball) (hv : ∀ k, v.ownBlock = some k → Φ k) (hm : m.1 ≠ [] → ∀ ad, z.1 = some ad → D + 2 ≤ ad.block ∧ ad.block < W.heap.size)
    (hgr : (W.alloc o).grownBy W7 v.ownBlock) (hown : MOwnF W7 (D + 2) v7 (pre ++ [m]) (fun k => Φ k ∨ k = (W.alloc o).heap.size ∧ v7.ownBlock = some k ∨ m.1 ≠ [] ∧ ∃ ad, z.1 = some ad ∧ k = ad.block)) :
    (W7.cell? ⟨ball, 0, none⟩ = some v ∧ W7.frozen? ⟨ball, 0, none⟩ = false) ∧ (∀ k, k < D + 2 → k ≠ ball → (W7.setCell ⟨ball, 0, none⟩ v7).heap[k]? = W.heap[k]?) ∧ (∃ Φ', MJA w ball Bb D B ce xs (pre ++ [m]) Φ' (W7.setCell ⟨ball, 0, none⟩ v7) ∧ Kept (fun k => k < D + 2 ∨ Φ k) W (W7.setCell ⟨ball, 0, none⟩ v7) ∧ ∀ k, Φ' k → Φ k ∨ W.heap.size ≤ k ∨ (m.1 ≠ [] ∧ ∃ ad, z.1 = some ad ∧ k = ad.block)) := by
  have hlt := j6.lt
  have k7 : Kept Φ W W7 := ((Kept.refl _ _).alloc o).grown hgr (fun k e => .inl (hv k e))
  have k78 : Kept (· = ball) W7 (W7.setCell ⟨ball, 0, none⟩ v7) := (Kept.refl (· = ball) W7).setCell (p := ⟨ball, 0, none⟩) (.inl rfl) v7
  have k8 : Kept (fun k => k = ball ∨ Φ k) W (W7.setCell ⟨ball, 0, none⟩ v7) := (k7.mono (fun k e => .inr e)).trans (k78.mono (fun k e => .inl e))
  have nb : ¬ Φ ball := fun q => by have := (j5 _ q).1; omega
  have b7 := j6.kept k7 nb
  have hs := k8.size
  have hs1 : (W.alloc o).heap.size = W.heap.size + 1 := World.size_alloc _ _
  have hl7 : ∀ k, (Φ k ∨ k = (W.alloc o).heap.size ∧ v7.ownBlock = some k ∨ m.1 ≠ [] ∧ ∃ ad, z.1 = some ad ∧ k = ad.block) → D + 2 ≤ k ∧ k < (W7.setCell ⟨ball, 0, none⟩ v7).heap.size := by
    rintro k (q | ⟨q, e⟩ | ⟨q, ad, e, rfl⟩)
    · have := j5 k q; omega
    · have := hown.own.lt k e
      have h9 : (W7.setCell ⟨ball, 0, none⟩ v7).heap.size = W7.heap.size := by simp [World.setCell]
      omega
    · have := hm q ad e; omega
  refine ⟨⟨b7.cell 0, b7.frozen 0⟩, fun k q1 q2 => k8.block k (by omega) (fun e => e.elim q2 (fun z => by have := (j5 _ z).1; omega)), _, ⟨(k8.block _ (Array.getElem?_eq_some_iff.1 j1).1 ?_).trans j1, j2.kept k8 ?_, j3.trans (k8.to_below j3.size ?_), by omega, hl7, v7, b7.set 0 v7, hown.kept k78 (fun i q e => by have := (hl7 i q).1; omega)⟩, k8.mono ?_, ?_⟩
  · rintro (e | e)
    · omega
    · have := (j5 _ e).1; omega
  · rintro (e | e)
    · exact h4 e
    · have := (j5 _ e).1; omega
  · rintro k (e | e)
    · omega
    · have := (j5 _ e).1; have := j3.size; omega
  · rintro k (e | e)
    · exact .inl (by omega)
    · exact .inr e
  · rintro k (q | ⟨q, -⟩ | q)
    · exact .inl q
    · exact .inr (.inl (by omega))
    · exact .inr (.inr q)

theorem fold_15 (t : Array Value) (x : Value) : Array.foldl (fun t (x : Nat × Value) => t.setIfInBounds x.1 x.2) t ((#[15] : Array Nat).zip #[x]) = t.setIfInBounds 15 x := by
  simp

set_option maxRecDepth 100000 in
set_option maxHeartbeats 4000000 in
theorem All_in (p : Prg) (w : World) (hp : p.Ok w) : CallsIn Fence.wide 4 Tryz.prog 12 #[.agg #[.int .i64 p.ps, .slice p.A p.vs.length p.c, .slice p.B p.xs.length p.e]] w (MAll (pcheck p.ps p.vs p.xs) (msites p.xs) w) := by
  obtain ⟨ps, A, c, vs, B, ce, xs⟩ := p
  simp only at *
  have hB1 : Below w.heap.size w (w.alloc (.cells #[.int .i64 ps, .slice A vs.length c, .slice B xs.length ce] 25)) := (Below.refl _ _).alloc (Nat.le_refl _) _
  have bP := Blk.new w 25 #[.int .i64 ps, .slice A vs.length c, .slice B xs.length ce]
  obtain ⟨w1, hw1⟩ : ∃ w1, w.alloc (.cells #[.int .i64 ps, .slice A vs.length c, .slice B xs.length ce] 25) = w1 := ⟨_, rfl⟩
  rw [hw1] at hB1 bP
  have HW1 := Lib.hid hw1
  have hp1 := hp.at hB1
  have HC := Lib.hid ((callsIn_wide (n := 3)).2 (PCheck_any ⟨ps, A, c, vs, B, ce, xs⟩ w1 hp1))
  have HW : Hid (pcheck ps vs xs = 0 → Whole xs ∧ xs.length ≤ 200) := Lib.hid pcheck_whole
  have HS1 := Lib.hid (fun W (h : Below w1.heap.size w1 W) => (bP.below h bP.lt).three)
  obtain ⟨p0, p1, p2⟩ := bP.three
  simp only at HC
  generalize pcheck ps vs xs = e9 at *
  have HXB := Lib.hid hp.body
  have HB1 := Lib.hid hB1
  have hf1 : Fence.wide.fn 19 := trivial
  have hf2 : Fence.wide.fn 30 := trivial
  clear hw1 hp1 hp bP hB1
  by_cases h9 : e9 = 0
  · subst h9
    obtain ⟨hw, hl⟩ := HW.out rfl
    clear HW
    refine callsIn_of_wp_marks Tryz.func12 rfl trivial ?_ rfl
    simp only [Tryz.ntmps12, List.size_toArray, List.length_cons, List.length_nil, Nat.reduceAdd, Nat.reduceSub, Array.replicate_succ, Array.replicate_zero, List.push_toArray, List.append_toArray, List.nil_append, List.cons_append]
    gi_wp2_with (first
      | (gi_at_call 19; rw [HW1.out]; refine HC.out.mono ?_; rintro e w2 ⟨rfl, hb2⟩; obtain ⟨p0, p1, p2⟩ := HS1.out _ hb2; have q2 := HS1.out _ (hb2.alloc hb2.size (.cells #[.slice none 0 0] 28)))
      | (gi_at_call 30; refine ((callsIn_wide (n := 3)).2 (mutants_any B xs.length ce _)).mono ?_; rintro e w3 ⟨rfl, rfl⟩))
    have bR := (Blk.new w2 28 #[.slice none 0 0]).alloc (.cells #[.slice B xs.length ce] 23)
    have bB := Blk.new (w2.alloc (.cells #[.slice none 0 0] 28)) 23 #[.slice B xs.length ce]
    rw [World.size_alloc] at bB
    have hB2 := HB1.out.trans (hb2.mono HB1.out.size)
    have hB4 : Below w.heap.size w ((w2.alloc (.cells #[.slice none 0 0] 28)).alloc (.cells #[.slice B xs.length ce] 23)) := (hB2.alloc hB2.size _).alloc (by have := hB2.size; simp; omega) _
    have hs4 : ((w2.alloc (.cells #[.slice none 0 0] 28)).alloc (.cells #[.slice B xs.length ce] 23)).heap.size = w2.heap.size + 2 := by simp
    have hw2 := hB2.size
    have HMJ := Lib.hid (mupto_len xs xs.length)
    generalize ((w2.alloc (.cells #[.slice none 0 0] 28)).alloc (.cells #[.slice B xs.length ce] 23)) = w4 at *
    clear p0 p1 p2 q2 hb2 hB2
    refine wpIn_rangeFunc_open rfl (by omega) (gf := 57) (fb := #[]) (lb := #[.pointer (some ⟨w2.heap.size + 1, 0, none⟩)]) rfl trivial (enters_of Tryz.func57 (by kernel_rfl) rfl)
      (fun W => ∃ Φ, MJA w w2.heap.size (w2.heap.size + 1) w4.heap.size B ce xs (msites xs) Φ W) (fun _ _ => False) ?calls ?done ?stop
    case calls =>
      intro fn W hfn hbW hsW hD hL
      obtain ⟨rec, hrec⟩ := recd_name hL
      simp only [← hrec] at hL ⊢
      have hh : ∀ (pre : List Mt) (Φ : Nat → Prop) (X Y : World) (S : Nat → Prop), MJA w w2.heap.size (w2.heap.size + 1) w4.heap.size B ce xs pre Φ X → Kept S X Y → (∀ i, S i → w4.heap.size < i ∧ ¬ Φ i) → MJA w w2.heap.size (w2.heap.size + 1) w4.heap.size B ce xs pre Φ Y := fun pre Φ X Y S h k hS => h.kept k (by omega) (by omega) (by omega) hS
      refine CallsIn.mono (mutants1_in (w4.heap.size + 1) (w4.heap.size + 2) (w2.heap.size + 1) B ce xs (fun pre Φ W' => W'.heap[w4.heap.size + 1]? = some (.loop (rec .ready none)) ∧ MJA w w2.heap.size (w2.heap.size + 1) w4.heap.size B ce xs pre Φ W') W hw (by omega) (fun _ => False) ⟨hL, ?h0⟩ ⟨?stay, ?lt, ?body⟩ ?hY) ?fin
      case h0 =>
        exact ⟨hD, bB.below hbW (by omega), hB4.trans (hbW.mono hB4.size), by omega, fun k h => h.elim, _, bR.below hbW (by omega), [], rfl, World.ownsRow_nil _ _ _ _, (fun y h => by cases h), fun k h => by cases h⟩
      case stay =>
        rintro pre Φ X Y ⟨h1, h2⟩ hk
        exact ⟨(hk.block _ (Array.getElem?_eq_some_iff.1 h1).1 (by omega)).trans h1, hh _ _ _ _ _ h2 hk (fun i q => ⟨by omega, q.2⟩)⟩
      case lt => exact fun pre Φ X h => ⟨h.2.size, fun k q => (h.2.lt k q).2⟩
      case body =>
        rintro pre Φ X ⟨h1, h2⟩
        refine ⟨h2.cap.cell 0, by omega, fun i x hx => ?_⟩
        obtain ⟨ad, e, q1, q2⟩ := (HXB.out.below h2.below) i x hx
        exact ⟨ad, e, by omega, q2⟩
      case fin =>
        rintro e W' ⟨⟨v, rfl⟩, Φ, h1, h2⟩
        exact ⟨⟨_, rfl⟩, h2.mark, .inl ⟨h1, Φ, h2⟩⟩
      case hY =>
        rintro pre m Φ P c' W0 ⟨hl0, hJ⟩ hok hfar hpre
        rw [hrec] at hl0
        refine yieldAt_of2 hl0 hfn rfl (Go_ := fun W3 => ∃ Φ', MJA w w2.heap.size (w2.heap.size + 1) w4.heap.size B ce xs (pre ++ [m]) Φ' W3 ∧ Kept (fun k => k < w4.heap.size + 2 ∨ Φ k) W0 W3 ∧ ∀ k, Φ' k → Φ k ∨ W0.heap.size ≤ k ∨ (m.1 ≠ [] ∧ ∃ ad, P = some ad ∧ k = ad.block)) (St := fun _ _ => False) ?_ ?ygo ?yst
        case ygo =>
          rintro W1 W2 ⟨Φ', h1, h2, h3⟩ hk hr
          exact ⟨rfl, Φ', ⟨by rw [hrec]; exact hr, hh _ _ _ _ _ h1 hk (fun i q => ⟨by omega, fun z => by have := (h1.lt i z).1; omega⟩)⟩, h2.trans (hk.mono (fun k q => .inl (by omega))), h3⟩
        case yst => exact fun _ _ _ h => h.elim
        rw [fold_15]
        simp only [List.setIfInBounds_toArray, List.set_cons_succ, List.set_cons_zero]
        have HS4 := Lib.hid hs4
        have hlp : w4.heap.size + 1 < W0.heap.size := (Array.getElem?_eq_some_iff.1 hl0).1
        have HPL : Hid (pre.length + 1 ≤ 100000000) := Lib.hid (by
          have h1 := hpre.length_le
          have h2 : (msites xs).length ≤ xs.length * 5 := HMJ.out
          rw [List.length_append, List.length_singleton] at h1
          omega)
        clear hs4 hpre hL hD hsW hB4 bR bB
        gi_wp2
        refine ⟨(Below.heap_alloc _ _ _ (by omega)).trans hl0, ?_⟩
        intro W2 hk2 hs2 hbusy
        generalize (recd fn _ _ _ _ _ LoopState.busy none) = busy at hbusy ⊢
        have kA : Kept (· = w4.heap.size + 1) W0 W2 := ((Kept.refl _ _).alloc _).trans hk2
        have hJ2 := hh _ _ _ _ _ hJ kA (fun i q => ⟨by omega, fun z => by have := (hJ.lt i z).1; omega⟩)
        have bX := (Blk.new W0 34 #[.slice P m.1.length c', .int .i64 m.2.1, .int .i64 m.2.2]).kept hk2 (by omega)
        have hok2 : (dl P c' m).Ok W2 := by
          refine ⟨?_, hok.len, hok.cap, hok.none⟩
          by_cases hp : m.1 = []
          · intro i x hx
            rw [show (dl P c' m).p = m.1 from rfl, hp] at hx
            simp at hx
          · exact IRow.kept hok.path kA (fun ad e q => by have := (hfar hp ad e).1; omega)
        obtain ⟨j1, j2, j3, j4, j5, v, j6, j7⟩ := hJ2
        have c0 : W2.cell? ⟨w2.heap.size, 0, none⟩ = some v := j6.cell 0
        have x0 := bX.cell 0
        have x1 := bX.cell 1
        have x2 := bX.cell 2
        have hO2 := j7.kept (((Kept.refl (fun _ => False) W2).alloc (.cells (mcell (P, c') m).toArray 34))) (fun i _ q => q)
        have bL := Blk.new W2 34 (mcell (P, c') m).toArray
        have hb1 : Below W2.heap.size W2 (W2.alloc (.cells (mcell (P, c') m).toArray 34)) := (Below.refl _ _).alloc (Nat.le_refl _) _
        have hb9 : w4.heap.size + 2 ≤ (W2.alloc (.cells (mcell (P, c') m).toArray 34)).heap.size := Nat.le_trans j4 hb1.size
        have hl9 : ∀ k, Φ k → k < (W2.alloc (.cells (mcell (P, c') m).toArray 34)).heap.size := fun k q => Nat.lt_of_lt_of_le (j5 k q).2 hb1.size
        have hok9 := hok2.at hb1
        have hne : m.1 ≠ [] → ∀ ad, P = some ad → ¬ Φ ad.block := fun q ad e => (hfar q ad e).2
        have hmb : m.1 ≠ [] → ∀ ad, (P, c').1 = some ad → w4.heap.size + 2 ≤ ad.block ∧ ad.block < W2.heap.size := fun q ad e => by
          obtain ⟨x, r, hx⟩ := ne_cons q
          obtain ⟨ad', e', hb', -⟩ := hok2.path 0 x (by show m.1[0]? = some x; rw [hx]; rfl)
          have e2 : some ad = some ad' := e.symm.trans e'
          cases e2
          exact ⟨(hfar q ad e).1, hb'⟩
        have HST := Lib.hid (fun (v7 : Value) (W7 : World) => MJA.step (pre := pre) (W7 := W7) (v7 := v7) (z := (P, c')) (m := m) j1 j2 j3 j4 j5 j6 (by have := HS4.out; omega) (by have := HS4.out; omega) hw2 (by omega) j7.choose_spec.2.2.2 hmb (o := .cells (mcell (P, c') m).toArray 34))
        clear hs2
        gi_wp2_with (gi_at_builtin; (refine append_mtIn rfl _ _ rfl (w4.heap.size + 2) hb9 _ pre Φ rfl hO2 hl9 W2.heap.size (P, c') m rfl bL HPL.out hok9 hne ?_; intro v7 w7 hgr hat hown; obtain ⟨⟨c7, f7⟩, hJ8⟩ := HST.out v7 w7 hgr hown; have HJ8 := Lib.hid hJ8; obtain ⟨A7, k7, rfl, -⟩ := hown.own.mrow; clear hJ8 hown))
        have hJ8 := HJ8.out
        rw [show (pre ++ [m]).length = pre.length + 1 by simp] at hJ8
        obtain ⟨hq8, Φ8, hM8, hK8, hP8⟩ := hJ8
        refine ⟨?_, Φ8, hM8, (kA.mono fun k e => .inl (by omega)).trans hK8, fun k q => ?_⟩
        · exact (hq8 _ (by omega) (by have := HS4.out; omega)).trans hbusy
        · rcases hP8 k q with z | z | z
          · exact .inl z
          · exact .inr (.inl (Nat.le_trans kA.size z))
          · exact .inr (.inr z)
    case done =>
      rintro W W' ⟨Φ, hJ⟩ hk hD
      have hJ' := hJ.kept hk (by omega) (by omega) (by omega) (fun i q => ⟨by omega, fun z => by have := (hJ.lt i z).1; omega⟩)
      obtain ⟨-, d1, hB, d2, d3, v, d4, d5⟩ := hJ'
      obtain ⟨A7, c7, rfl, hl7, hA7, -⟩ := d5.own.mrow
      have c2 := d4.cell 0
      have hcz : (#[Value.slice A7 (msites xs).length c7] : Array Value)[0]? = some (.slice A7 (msites xs).length c7) := rfl
      rw [hcz] at c2
      have HB := Lib.hid (hB.trans (belowK_b (w := w) (Nat.le_refl _) _ w4.heap.size _ (.deferred none) (by omega) hD rfl rfl))
      have kD := kept_putObj W' w4.heap.size (.deferred none)
      have HD5 := Lib.hid ((d5.kept kD (fun i q e => by have := (d3 i q).1; omega)).own.mrow)
      clear hJ hk hB d1 d2 d3 d4 d5 hcz
      gi_wp2
      refine ⟨by simp, .inl ⟨_, _, rfl, run_takeDeferred hD, ?_⟩⟩
      obtain ⟨A8, c8, e8, q1, q2, q3⟩ := HD5.out
      cases e8
      exact ⟨.tuple #[.slice A7 (msites xs).length c7, .int .i64 0], by simp [results, Tryz.results12, go_sem], HB.out, .inl ⟨rfl, A7, c7, rfl, q1, q2, q3⟩⟩
    case stop => exact fun _ _ _ h => h.elim
  · have e0 : (e9 == 0) = false := by simpa using h9
    clear HW
    have H9 := Lib.hid h9
    clear h9
    refine callsIn_of_wp_marks Tryz.func12 rfl trivial ?_ rfl
    simp only [Tryz.ntmps12, List.size_toArray, List.length_cons, List.length_nil, Nat.reduceAdd, Nat.reduceSub, Array.replicate_succ, Array.replicate_zero, List.push_toArray, List.append_toArray, List.nil_append, List.cons_append]
    gi_wp2_with (first
      | (gi_at_call 19; rw [HW1.out]; refine HC.out.mono ?_; rintro e w2 ⟨rfl, hb2⟩))
    exact ⟨.tuple #[.slice none 0 0, .int .i64 e9], by simp [results, Tryz.results12, go_sem], HB1.out.trans (hb2.mono HB1.out.size), .inr ⟨H9.out, none, 0, rfl⟩⟩

theorem PAll_any (p : Prg) (w : World) (hp : p.Ok w) : Calls Tryz.prog 12 #[.agg #[.int .i64 p.ps, .slice p.A p.vs.length p.c, .slice p.B p.xs.length p.e]] w (MAll (pcheck p.ps p.vs p.xs) (msites p.xs) w) :=
  (callsIn_wide (n := 4)).1 (All_in p w hp)

end Go.Proofs.YtofhgaioidfdmaaGreat.Sites
