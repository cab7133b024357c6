/-
  A range over a function whose body may panic: the code of one function's activations ('At'), a round that is left by a panic, the statement, and a function that holds it.
-/
import Derived.RangeFuncNested
import Derived.RangeFuncLeaves
import Derived.RangeFuncCalls
import Derived.Deep.RegionHeld3
import Derived.OrdersIn
import Derived.OwnWalkIn
import Derived.Test.YtfjdbbhaigjbmaaGreatBaseG
namespace Go.Proofs.YtfjdbbhaigjbmaaGreat.RangeP
open Go.RowKit Mem

variable {F : Fence} {n : Nat} {P : Program}

/-- Code, walked in the activations of f alone. -/
def At (F : Fence) (n : Nat) (P : Program) (f : FuncId) (c : Code) (Q : Exit → Act → World → Prop) (a : Act) (w : World) : Prop :=
  ∀ (b : Frame) (k : List Item) (cs : List Frame), b.roundOf = F.round → b.fn = f → F.room (cs.length + 1 + n) →
    ∃ e a' w', Q e a' w' ∧ ArrivesIn (Machine.fenced P F) P (lone (b.atR a (.code c :: k)) cs w) b k cs e a' w'

theorem At.of {f : FuncId} {c : Code} {Q : Exit → Act → World → Prop} {a : Act} {w : World} (hF : F.fn f) (h : c.wpIn F n P Q a w) : At F n P f c Q a w :=
  fun b k cs hro hb hr => h b k cs hro (hb ▸ hF) hr

theorem At.seq {f : FuncId} {x y : Code} {Q : Exit → Act → World → Prop} {a : Act} {w : World} (hF : F.fn f) (h : At F n P f x (Exit.then (At F n P f y Q) Q) a w) : At F n P f (.seq x y) Q a w := by
  intro b k cs hro hb hr
  have h0 : (lone (b.atR a (.code (.seq x y) :: k)) cs w).fenced P F := fenced_calm (hb ▸ hF) hr rfl
  obtain ⟨e, a₁, w₁, hq, harr⟩ := h b (.code y :: k) cs hro hb hr
  by_cases he : e = .normal
  · subst he
    obtain ⟨e₂, a₂, w₂, hq₂, harr₂⟩ := hq b k cs hro hb hr
    exact ⟨e₂, a₂, w₂, hq₂, .of_steps (.head h0 stepR_seq harr) harr₂⟩
  · refine ⟨e, a₁, w₁, ?_, .of_steps (.one h0 stepR_seq) (.pass (x := .code y) rfl (fun _ _ => .inl he) harr)⟩
    cases e <;> first | exact hq | exact absurd rfl he

theorem At.block {f : FuncId} {id : Nat} {c : Code} {Q : Exit → Act → World → Prop} {a : Act} {w : World} (hF : F.fn f) (h : At F n P f c (Exit.inBlock id Q) a w) : At F n P f (.block id c) Q a w := by
  intro b k cs hro hb hr
  have hbF : F.fn b.fn := hb ▸ hF
  have h0 : (lone (b.atR a (.code (.block id c) :: k)) cs w).fenced P F := fenced_calm hbF hr rfl
  obtain ⟨e, a₁, w₁, hq, harr⟩ := h b (.inBlock id :: k) cs hro hb hr
  cases e with
  | normal => exact ⟨.normal, a₁, w₁, hq, .head h0 stepR_block (StepsIn.trans harr (.one (fenced_calm hbF hr rfl) stepR_inBlock))⟩
  | exit id' =>
    by_cases hid : id' = id
    · simp only [Exit.inBlock, hid, if_true] at hq
      exact ⟨.normal, a₁, w₁, hq, .head h0 stepR_block (harr.1 k (by simp [exitTo, hid]))⟩
    · simp only [Exit.inBlock, hid, if_false] at hq
      have this : (id == id') = false := by simp; exact fun h => hid h.symm
      have hx : exitTo id' (.inBlock id :: k) = exitTo id' k := by simp [exitTo, this]
      exact ⟨.exit id', a₁, w₁, hq, fun k' hk => .head h0 stepR_block (harr.1 k' (by rw [hx]; exact hk)),
        fun hr' hk => let ⟨k₁, h1, h2⟩ := harr.2 hr' (by rw [hx]; exact hk); ⟨k₁, h1, .head h0 stepR_block h2⟩⟩
  | goto l =>
    have hx : gotoIn l (.inBlock id :: k) = gotoIn l k := by simp [gotoIn]
    exact ⟨_, a₁, w₁, hq, fun k' hk => .head h0 stepR_block (harr.1 k' (by rw [hx]; exact hk)),
      fun hr' hk => let ⟨k₁, h1, h2⟩ := harr.2 hr' (by rw [hx]; exact hk); ⟨k₁, h1, .head h0 stepR_block h2⟩⟩
  | ret => exact ⟨_, a₁, w₁, hq, .of_steps (.one h0 stepR_block) harr⟩
  | panic ch => exact ⟨_, a₁, w₁, hq, .of_steps (.one h0 stepR_block) harr⟩
  | outgrown => exact ⟨_, a₁, w₁, hq, .of_steps (.one h0 stepR_block) harr⟩

/-! ### A region that draws its order, within a round: by the laws of the plain walk -/
theorem wpOpIn_round {ops : Array Oper} {Q : Exit → Act → World → Prop} {l i : Nat} {K : Act → World → Prop} {a : Act} {w : World} (hd : ∀ o : Oper, ops[i]? = some o → ∀ c, o.op ≠ .defer c) (hQ : ¬ LetsOut Q)
    (h : wpOp P ops Q i K a w) : wpOpIn (Fence.wide.inRound l) n P ops Q i K a w := by
  unfold wpOp at h
  unfold wpOpIn
  rcases ho : ops[i]? with _ | o
  · rw [ho] at h; exact h
  · rw [ho] at h
    simp only at h ⊢
    split
    · rename_i hw
      rw [if_pos hw] at h
      rcases h with h | ⟨-, h⟩
      · refine ⟨fun _ _ => trivial, ?_⟩
        rw [Oper.semAt_plain _ _ _ (hd o ho)]
        unfold Oper.wp at h
        generalize (execOp a.eval o).run P w = r at *
        cases r with
        | ok x w' =>
          cases x with
          | value v => exact h
          | skip => exact h
          | defer d => exact h
          | enter f args => exact ⟨(fun e => by cases e), CallsIn.inRound l (callsIn_wide.2 h)⟩
          | row row args =>
            refine ⟨(fun e => by cases e), fun c cs _ => ?_⟩
            obtain ⟨v, w'', h1, h2⟩ := h c cs
            exact ⟨v, w'', h1, stepsIn_wide.2 h2⟩
          | _ => exact h.elim
        | halt x w' => cases x <;> exact h
      · exact (hQ h).elim
    · rename_i hw
      rw [if_neg hw] at h
      exact ⟨fun _ _ => trivial, h⟩
theorem wpAnyIn_round {md : Region.Mode} {ops : Array Oper} {Q : Exit → Act → World → Prop} {l : Nat} (hd : ∀ (i : Nat) (o : Oper), ops[i]? = some o → ∀ c, o.op ≠ .defer c) (hQ : ¬ LetsOut Q) :
    ∀ (fuel : Nat) (listed : Array Bool) (a : Act) (w : World), wpAny P md ops Q fuel listed a w → wpAnyIn (Fence.wide.inRound l) n P md ops Q fuel listed a w
  | 0, _, _, _, h => h
  | fuel + 1, _, _, _, h => ⟨h.1, fun i hi => wpOpIn_mono (fun _ _ h' => wpAnyIn_round hd hQ fuel _ _ _ h') (wpOpIn_round (hd i) hQ (h.2 i hi))⟩
/-- No operation is a defer statement. -/
def noDefer (ops : Array Oper) : Bool := ops.all fun o => match o.op with | .defer _ => false | _ => true
theorem noDefer_spec {ops : Array Oper} (h : noDefer ops = true) : ∀ (i : Nat) (o : Oper), ops[i]? = some o → ∀ c, o.op ≠ .defer c := by
  intro i o ho c hc
  obtain ⟨hi, rfl⟩ := Array.getElem?_eq_some_iff.1 ho
  have := (Array.all_eq_true.1 h) i hi
  rw [hc] at this
  cases this
theorem wpIn_region_round {ops : Array Oper} {Q : Exit → Act → World → Prop} {S : World → Prop} {l id : Nat} {a : Act} {w : World} (hm : P.follows .mixedOrders = true) (hd : noDefer ops = true) (hQ : ¬ LetsOut Q) (hS : S w.drew)
    (h : S w.drew → wpAnyH P .any ops Q S ops.size (Array.replicate ops.size false) a w.drew) : (Code.region id ops true).wpIn (Fence.wide.inRound l) n P Q a w :=
  wpIn_region_any hm (wpAnyIn_round (noDefer_spec hd) hQ _ _ _ _ (wpAny_of_held _ _ _ _ (h hS)))

/-- How the body of a round may be left here: off its end, or by a panic. -/
def roundPost (P : Program) (l : Nat) (R : Ending → World → Prop) : Exit → Act → World → Prop
  | .normal, _, w => ∃ v w', (Instr.endRound l none).run P w = .ok v w' ∧ R (.returned v) w'
  | .panic ch, a, w => a.defers = [] ∧ R (.panicked ch) w
  | _, _, _ => False

theorem stepR_round_panic {b c : Frame} {a : Act} {todo : List Item} {cs : List Frame} {w : World} {ch : List PanicEntry} (hf : ∃ fn, P.funcs[b.fn]? = some fn) (hd : a.defers = []) :
    step P (lone { b.atR a todo with mode := .panicking ch } (c :: cs) w) = .next (lone (c.raise ch) cs w) := by
  obtain ⟨fn, hf⟩ := hf
  exact step_lone_go (by simp [stepG, unwind, Frame.catches, Frame.atR, hd, hf])

/-- One round, out of its body's walk. -/
theorem roundIn_of {l : Nat} {f : FuncId} {tmps : Array Value} {assign body : Code} {w : World} {R : Ending → World → Prop} (hF : F.fn f) (hf : ∃ fn, P.funcs[f]? = some fn)
    (h : assign.wpIn (F.inRound l) n P (Exit.then (fun a₁ w₁ => ∃ w₂, (Instr.beginRound l).run P w₁ = .ok () w₂ ∧ body.wpIn (F.inRound l) n P (roundPost P l R) a₁ w₂) (fun _ _ _ => False))
      { tmps := tmps, defers := [] } w) :
    RoundIn F n P l f tmps assign body w R := by
  refine ⟨hF, fun c cs hr => ?_⟩
  let b : Frame := { (default : Frame) with fn := f, kind := .normal, roundOf := some l }
  have hb0 : Frame.round l f tmps assign body .normal = b.atR { tmps := tmps, defers := [] } [.code assign, .beginRound, .code body] := by
    simp [Frame.round, Frame.atR, b]
  have hr' : (F.inRound l).room ((c :: cs).length + 1 + n) := hr
  have hF' : (F.inRound l).fn b.fn := hF
  obtain ⟨e, a₁, w₁, hq, harr⟩ := h b [.beginRound, .code body] (c :: cs) rfl hF' hr'
  rw [← hb0] at harr
  cases e with
  | normal =>
    obtain ⟨w₂, hbr, hbody⟩ := hq
    have s1 : StepsIn (Machine.fenced P (F.inRound l)) P (lone (b.atR a₁ [.beginRound, .code body]) (c :: cs) w₁) (lone (b.atR a₁ [.code body]) (c :: cs) w₂) :=
      .one (fenced_calm (fr := b.atR a₁ [.beginRound, .code body]) hF' hr' rfl) (stepR_beginRound rfl hbr)
    obtain ⟨e₂, a₂, w₃, hq₂, harr₂⟩ := hbody b [] (c :: cs) rfl hF' hr'
    cases e₂ with
    | normal =>
      obtain ⟨v, w₄, hend, hR⟩ := hq₂
      exact ⟨.returned v, w₄, hR, (StepsIn.trans harr s1).trans (StepsIn.trans harr₂ (.one (fenced_calm (fr := b.atR a₂ []) hF' hr' rfl) (stepR_round_end rfl rfl hend)))⟩
    | panic ch =>
      obtain ⟨hd, hR⟩ := hq₂
      obtain ⟨todo, hs⟩ := harr₂
      exact ⟨.panicked ch, w₃, hR, (StepsIn.trans harr s1).trans (StepsIn.trans hs (.one (fenced_calm (fr := { b.atR a₂ todo with mode := .panicking ch }) hF' hr' (by simp [Frame.about, Frame.atR, hd])) (stepR_round_panic hf hd)))⟩
    | exit id => exact hq₂.elim
    | goto t => exact hq₂.elim
    | ret => exact hq₂.elim
    | outgrown => exact hq₂.elim
  | exit id => exact hq.elim
  | goto t => exact hq.elim
  | ret => exact hq.elim
  | panic chain => exact hq.elim
  | outgrown => exact hq.elim

/-- An iterator's contract where a round goes on or panics. Φ: the blocks that the loop's body may turn; Own: those that the iterator reads. -/
def Tells {α : Type} (F : Fence) (n : Nat) (P : Program) (g : Nat) (lb : Array Value) (encs : α → Array Value) (S G : List α → Prop) (Own : Nat → Prop) (w : World) : Prop :=
  ∀ (l : Nat) (J : List α → (Nat → Prop) → World → Prop) (Jp : List α → List PanicEntry → World → Prop) (W : World) (Φ₀ : Nat → Prop), Below w.heap.size w W →
    (∀ s Φ X, J s Φ X → ∀ k, Φ k → k < X.heap.size) →
    (∀ s Φ X Y, J s Φ X → Below X.heap.size X Y → J s Φ Y) →
    (∀ pre x Φ W1, J pre Φ W1 → G (pre ++ [x]) → YieldAt F (n - 1) P l (encs x) W1 fun e W' =>
      (e = .returned (.bool true) ∧ ∃ Φ', J (pre ++ [x]) Φ' W' ∧ Kept Φ W1 W' ∧ ∀ k, Φ' k → Φ k ∨ W1.heap.size ≤ k) ∨ (∃ ch, e = .panicked ch ∧ Jp (pre ++ [x]) ch W')) →
    J [] Φ₀ W → (∀ k, Φ₀ k → ¬ Own k) →
    CallsIn F n P g (#[.func (.yield l) #[] #[]] ++ lb) W fun e W' => (∃ v xs Φ, e = .returned v ∧ S xs ∧ J xs Φ W') ∨ (∃ ch pre, e = .panicked ch ∧ G pre ∧ Jp pre ch W')

/-- How the loop's body may be left: W: where the round began, W₂: where the body did. -/
def bodyPostP {α : Type} (I : List α → (Nat → Prop) → World → Prop) (Ip : List α → List PanicEntry → World → Prop) (xs : List α) (Φ : Nat → Prop) (W W₂ : World) : Exit → Act → World → Prop
  | .normal, _, W' => Kept Φ W₂ W' ∧ ∃ Φ', I xs Φ' W' ∧ ∀ k, Φ' k → Φ k ∨ W.heap.size ≤ k
  | .panic ch, a, W' => a.defers = [] ∧ Kept Φ W₂ W' ∧ Ip xs ch W'
  | _, _, _ => False

theorem kept_putObj (W : World) (l : Nat) (o : Obj) : Kept (· = l) W (W.putObj l o) :=
  Kept.grown (Kept.refl _ _) (grownBy_putObj' W l o) (fun k e => by cases e; exact .inl rfl)

/-- THE STATEMENT. -/
theorem At.rangeFunc {α : Type} {f : FuncId} {g : Operand} {ps : Array Tmp} {assign body : Code} {Q : Exit → Act → World → Prop} {a : Act} {w : World}
    (hro : F.round = none) (h1 : 1 ≤ n) (hFf : F.fn f) (hfn : ∃ fn, P.funcs[f]? = some fn)
    {gf : Nat} {lb : Array Value} (hg : a.eval g = .func (.func gf) #[] lb) (hFg : F.fn gf) (eg : ∀ args w, (callFunc gf args).run P w = .ok (.enter gf args) w)
    {encs : α → Array Value} {S G : List α → Prop} {Own : Nat → Prop} (hseq : Tells F (n - 1) P gf lb encs S G Own w) (hps : ∀ x, (encs x).size = ps.size)
    (I : List α → (Nat → Prop) → World → Prop) (Ip : List α → List PanicEntry → World → Prop) (Φ₀ : Nat → Prop)
    (hIs : ∀ s Φ X, I s Φ X → ∀ k, Φ k → k < X.heap.size)
    (hI : ∀ s Φ X Y (l : Nat), w.heap.size ≤ l → ¬ Φ l → I s Φ X → Kept (· = l) X Y → I s Φ Y)
    (h0 : I [] Φ₀ w) (hOwn : ∀ k, Φ₀ k → ¬ Own k) (hOwn2 : ∀ k, Own k → k < w.heap.size)
    (hround : ∀ (l : Nat) (pre : List α) (x : α) (Φ : Nat → Prop) (W : World), w.heap.size < l → l < W.heap.size → ¬ Φ l → I pre Φ W → G (pre ++ [x]) →
      assign.wpIn (F.inRound l) (n - 1 - 1) P (Exit.then (fun a₁ W₁ => Below W.heap.size W W₁ ∧ ∀ W₂, Kept (· = l) W₁ W₂ → W₂.heap.size = W₁.heap.size → body.wpIn (F.inRound l) (n - 1 - 1) P (bodyPostP I Ip (pre ++ [x]) Φ W W₂) a₁ W₂) (fun _ _ _ => False))
        { tmps := (ps.zip (encs x)).foldl (fun t (p, v) => t.setIfInBounds p v) a.tmps, defers := [] } W)
    (hdone : ∀ (D : Nat) (xs : List α) (Φ : Nat → Prop) (W : World), w.heap.size ≤ D → D < W.heap.size → ¬ Φ D → S xs → I xs Φ W → W.heap[D]? = some (.deferred (some [])) → Q .normal { a with defers := { target := .collected D, args := #[] } :: a.defers } W)
    (hdie : ∀ (D : Nat) (ch : List PanicEntry) (pre : List α) (W : World), w.heap.size ≤ D → D < W.heap.size → G pre → Ip pre ch W → W.heap[D]? = some (.deferred (some [])) → Q (.panic ch) { a with defers := { target := .collected D, args := #[] } :: a.defers } W) :
    At F n P f (.rangeFunc g ps assign body) Q a w := by
  intro b k cs hrb hb hr
  obtain ⟨rec, hrec⟩ : ∃ rec : LoopState → Option Code → Loop, rec = fun st pe => { state := st, pending := pe, fn := b.fn, tmps := a.tmps, params := ps, assign, body, defers := w.heap.size } := ⟨_, rfl⟩
  obtain ⟨W1, hW1⟩ : ∃ W1, (w.alloc (.deferred (some []))).alloc (.loop (rec .ready none)) = W1 := ⟨_, rfl⟩
  have hL1 : W1.heap[w.heap.size + 1]? = some (.loop (rec .ready none)) := by
    rw [← hW1]; have := World.alloc_heap_new (w.alloc (.deferred (some []))) (.loop (rec .ready none)); rwa [World.size_alloc] at this
  have hD1 : W1.heap[w.heap.size]? = some (.deferred (some [])) := by
    rw [← hW1]; exact (Below.heap_alloc _ _ _ (by simp)).trans (World.alloc_heap_new w _)
  have hb1 : Below w.heap.size w W1 := by
    rw [← hW1]; exact ((Below.refl _ w).alloc (Nat.le_refl _) _).alloc (by simp) _
  have hΦl : ¬ Φ₀ (w.heap.size + 1) := fun h => by have := hIs _ _ _ h0 _ h; omega
  have hΦD : ¬ Φ₀ w.heap.size := fun h => by have := hIs _ _ _ h0 _ h; omega
  have hI1 : I [] Φ₀ W1 := hI _ _ _ _ _ (Nat.le_succ _) hΦl h0 (Kept.of_below hb1 (Nat.le_refl _))
  have he : (Instr.enterLoop b.fn a.tmps ps assign body b.roundOf).run P w = .ok (w.heap.size + 1, [{ target := .collected w.heap.size, args := #[] }]) W1 := by
    rw [hrb, hro, ← hW1, hrec]; exact run_enterLoop_outer _ _ _ _ _
  have hres : (resolve a.eval (rangeCall g (w.heap.size + 1)) 0).run P W1 = .ok { target := .fn (.func gf) lb, args := #[.func (.yield (w.heap.size + 1)) #[] #[]] } W1 := by
    simp only [resolve, hg]; simp [go_sem]
  have hlead : ∀ f', Target.leads P W1 (.fn (.func gf) lb) #[.func (.yield (w.heap.size + 1)) #[] #[]] = some f' → F.fn f' := by
    intro f' hf'; simp [Target.leads] at hf'; subst hf'; exact hFg
  have hinv : (invoke (.fn (.func gf) lb) #[.func (.yield (w.heap.size + 1)) #[] #[]]).run P W1 = .ok (.enter gf (#[.func (.yield (w.heap.size + 1)) #[] #[]] ++ lb)) W1 := by
    simp [invoke, go_sem, eg]
  have hbF : F.fn b.fn := hb ▸ hFf
  have hfen : (lone (b.atR a (.code (.rangeFunc g ps assign body) :: k)) cs w).fenced P F := by
    refine fenced_lone (.inl hbF) (fun f' hf' => hlead f' ?_) (Fence.room_le hr (by omega))
    have hev := Frame.eval_atR b a (.code (.rangeFunc g ps assign body) :: k)
    simp only [Frame.atR] at hev
    simp only [Frame.about, Frame.atR, he, hev, hres] at hf'
    exact hf'
  have henter := stepR_rangeFunc (P := P) (b := b) (a := a) (k := k) (cs := cs) (w := w) he hres hinv
  obtain ⟨a2, ha2⟩ : ∃ a2 : Act, a2 = { a with defers := [{ target := .collected w.heap.size, args := #[] }] ++ a.defers } := ⟨_, rfl⟩
  rw [← ha2] at henter
  have hroom : F.room ((b.atR a2 (.inRangeFunc (w.heap.size + 1) :: k) :: cs).length + 1 + (n - 1)) := Fence.room_enter hr (fun _ => h1)
  have hcall := hseq (w.heap.size + 1)
      (fun pre Φ' W => ∃ Φ : Nat → Prop, Φ' = (fun k => Φ k ∨ k = w.heap.size + 1) ∧ I pre Φ W ∧ ¬ Φ (w.heap.size + 1) ∧ ¬ Φ w.heap.size ∧ W.heap[w.heap.size + 1]? = some (.loop (rec .ready none)) ∧ W.heap[w.heap.size]? = some (.deferred (some [])))
      (fun pre ch W => Ip pre ch W ∧ W.heap[w.heap.size]? = some (.deferred (some [])))
      W1 (fun k => Φ₀ k ∨ k = w.heap.size + 1) hb1
      (by
        rintro s Φ' X ⟨Φ, rfl, hi, -, -, hl, -⟩ k (h | rfl)
        · exact hIs _ _ _ hi k h
        · exact (Array.getElem?_eq_some_iff.1 hl).1)
      (by
        rintro s Φ' X Y ⟨Φ, rfl, hi, h2, h3, hl, hk⟩ hXY
        exact ⟨Φ, rfl, hI _ _ _ _ _ (Nat.le_succ _) h2 hi (Kept.of_below hXY (Nat.le_refl _)), h2, h3, (hXY.block _ (Array.getElem?_eq_some_iff.1 hl).1).trans hl, (hXY.block _ (Array.getElem?_eq_some_iff.1 hk).1).trans hk⟩)
      (by
        rintro pre x Φ' W ⟨Φ, rfl, hi, hnl, hnD, hl, hk⟩ hG
        have hlt : w.heap.size + 1 < W.heap.size := (Array.getElem?_eq_some_iff.1 hl).1
        have hy := run_yield (P := P) (args := encs x) hl (by rw [hrec]; exact hps x)
        rw [hrec] at hy
        refine ⟨b.fn, _, assign, body, hy, roundIn_of hbF (hb ▸ hfn) (wpIn_mono (hround _ pre x Φ W (Nat.lt_succ_self _) hlt hnl hi hG) ?_)⟩
        rintro e a₁ W₁ hp
        cases e with
        | normal =>
          obtain ⟨hB1, hbody⟩ := hp
          have hl1 := (hB1.block _ hlt).trans hl
          have hk1 := (hB1.block _ (by omega)).trans hk
          have hK2 := kept_putObj W₁ (w.heap.size + 1) (.loop { rec .ready none with state := .busy })
          have hlt1 : w.heap.size + 1 < W₁.heap.size := (Array.getElem?_eq_some_iff.1 hl1).1
          refine ⟨_, run_beginRound hl1 (by rw [hrec]), wpIn_mono (hbody _ hK2 (by simp [World.putObj])) ?_⟩
          have hl2 : (W₁.putObj (w.heap.size + 1) (.loop { rec .ready none with state := .busy })).heap[w.heap.size + 1]? = some (.loop { rec .ready none with state := .busy }) := World.putObj_heap_same hlt1
          have hk2 : (W₁.putObj (w.heap.size + 1) (.loop { rec .ready none with state := .busy })).heap[w.heap.size]? = some (.deferred (some [])) := (World.putObj_heap_other (by omega)).trans hk1
          rintro e a3 W3 hp
          cases e with
          | normal =>
            obtain ⟨hK3, Φ2, hi3, hs3⟩ := hp
            have hl3 := (hK3.block _ (Array.getElem?_eq_some_iff.1 hl2).1 hnl).trans hl2
            have hd3 := (hK3.block _ (Array.getElem?_eq_some_iff.1 hk2).1 hnD).trans hk2
            have hr3 := run_endRound (P := P) none hl3
            have hn1 : ¬ Φ2 (w.heap.size + 1) := fun h => by rcases hs3 _ h with h | h; exact hnl h; omega
            have hn2 : ¬ Φ2 w.heap.size := fun h => by rcases hs3 _ h with h | h; exact hnD h; omega
            have hK4 := kept_putObj W3 (w.heap.size + 1) (.loop { { rec .ready none with state := .busy } with state := if (none : Option Code).isNone then .ready else .done, pending := none })
            refine ⟨_, _, hr3, .inl ⟨rfl, _, ⟨Φ2, rfl, hI _ _ _ _ _ (Nat.le_succ _) hn1 hi3 hK4, hn1, hn2, ?_, (World.putObj_heap_other (by omega)).trans hd3⟩, ?_, ?_⟩⟩
            · rw [World.putObj_heap_same (Array.getElem?_eq_some_iff.1 hl3).1, hrec]
              rfl
            · exact (((Kept.of_below hB1 (Nat.le_refl _)).then hK2 (fun i e => .inl (.inr e))).then hK3 (fun i e => .inl (.inl e))).then hK4 (fun i e => .inl (.inr e))
            · rintro k (h | h)
              · rcases hs3 _ h with h | h
                · exact .inl (.inl h)
                · exact .inr h
              · exact .inl (.inr h)
          | panic ch =>
            obtain ⟨hd, hK3, hi3⟩ := hp
            exact ⟨hd, .inr ⟨ch, rfl, hi3, (hK3.block _ (Array.getElem?_eq_some_iff.1 hk2).1 hnD).trans hk2⟩⟩
          | exit id => exact hp.elim
          | goto t => exact hp.elim
          | ret => exact hp.elim
          | outgrown => exact hp.elim
        | panic ch => exact hp.elim
        | exit id => exact hp.elim
        | goto t => exact hp.elim
        | ret => exact hp.elim
        | outgrown => exact hp.elim)
      ⟨Φ₀, rfl, hI1, hΦl, hΦD, hL1, hD1⟩
      (by
        rintro k (h | rfl) ho
        · exact hOwn k h ho
        · have := hOwn2 _ ho; omega)
  obtain ⟨hF, hcall⟩ := hcall
  obtain ⟨e, w₃, fr, hR, hsteps, hfn', hleave⟩ := hcall (b.atR a2 (.inRangeFunc (w.heap.size + 1) :: k) :: cs) hroom
  rcases hR with ⟨v, xs, Φ', rfl, hS, Φ, rfl, hi, hnl, hnD, hl, hk⟩ | ⟨ch, pre, rfl, hG, hi, hk⟩
  · have hfl : (lone fr (b.atR a2 (.inRangeFunc (w.heap.size + 1) :: k) :: cs) w₃).fenced P F := fenced_leaving (hfn' ▸ hF) hroom hleave
    have hend : (Instr.endLoop (w.heap.size + 1)).run P w₃ = .ok none (w₃.putObj (w.heap.size + 1) (.loop { rec .ready none with state := .exhausted })) := by
      have := run_endLoop (P := P) hl (by rw [hrec]; simp)
      rw [this, hrec]
    have hs : step P (lone (b.atR a2 (.endRangeFunc (w.heap.size + 1) :: k)) cs w₃) = .next (lone (b.atR a2 k) cs (w₃.putObj (w.heap.size + 1) (.loop { rec .ready none with state := .exhausted }))) := stepR_endRangeFunc hend
    have hK4 := kept_putObj w₃ (w.heap.size + 1) (.loop { rec .ready none with state := .exhausted })
    refine ⟨.normal, a2, _, ?_, .head hfen henter (StepsIn.trans hsteps (.head hfl ?_ (.one (fenced_calm (fr := b.atR a2 (.endRangeFunc (w.heap.size + 1) :: k)) hbF hr rfl) hs)))⟩
    · rw [ha2]
      exact hdone _ xs Φ _ (Nat.le_refl _) (Nat.lt_of_lt_of_le (Array.getElem?_eq_some_iff.1 hk).1 hK4.size) hnD hS (hI _ _ _ _ _ (Nat.le_succ _) hnl hi hK4) ((World.putObj_heap_other (by omega)).trans hk)
    · rw [← finish_atR_inRangeFunc (w.heap.size + 1) v]; exact step_leave_returned hleave
  · have hfl : (lone fr (b.atR a2 (.inRangeFunc (w.heap.size + 1) :: k) :: cs) w₃).fenced P F := fenced_leaving (hfn' ▸ hF) hroom hleave
    refine ⟨.panic ch, a2, w₃, ?_, .inRangeFunc (w.heap.size + 1) :: k, .head hfen henter (StepsIn.trans hsteps (.one hfl ?_))⟩
    · rw [ha2]
      exact hdie _ ch pre _ (Nat.le_refl _) (Array.getElem?_eq_some_iff.1 hk).1 hG hi hk
    · rw [← Frame.raise_atR]; exact step_leave_panicked hleave

/-- The post Q, but at a panic what is known does not hang on the frame's temporaries. -/
def Dies (ds : List Deferred) (R : List PanicEntry → World → Prop) (Q : Exit → Act → World → Prop) : Exit → Act → World → Prop
  | .panic ch, a, w => a.defers = ds ∧ R ch w
  | e, a, w => Q e a w
theorem Dies.normal {ds : List Deferred} {R : List PanicEntry → World → Prop} {Q : Exit → Act → World → Prop} {a : Act} {w : World} (h : Q .normal a w) : Dies ds R Q .normal a w := h
theorem wp_dies {c : Code} {Q : Exit → Act → World → Prop} {a : Act} {w : World} (ds : List Deferred) (R : List PanicEntry → World → Prop) (hR : ∀ ch a w, a.defers = ds → R ch w → Q (.panic ch) a w) (h : c.wp P (Dies ds R Q) a w) : c.wp P Q a w :=
  Code.wp_mono (fun e a w he => by cases e <;> first | exact he | exact hR _ _ _ he.1 he.2) h

/-- A function's contract from its body, walked in its own activations. -/
theorem callsIn_of_at {f : FuncId} {fn : Func} {c : Code} {args : Array Value} {w : World} {R : Ending → World → Prop}
    (hf : P.funcs[f]? = some fn) (hb : fn.body = some c) (hF : F.fn f)
    (h : At F n P f c (bodyPostM F n P fn R) { tmps := args ++ Array.replicate (fn.ntmps - args.size) undef, defers := [] } w) (hro : F.round = none) : CallsIn F n P f args w R := by
  refine ⟨hF, fun cs hr => ?_⟩
  let b : Frame := { (default : Frame) with fn := f, kind := .normal, roundOf := none }
  have henter : Frame.enter P f args .normal =
      b.atR { tmps := args ++ Array.replicate (fn.ntmps - args.size) undef, defers := [] } [.code c] := by
    simp [Frame.enter, Frame.atR, hf, hb, b]
  obtain ⟨e, a', w', hq, harr⟩ := h b [] cs hro.symm rfl hr
  rw [← henter] at harr
  cases e with
  | normal =>
    obtain ⟨e', w'', fr', hR, hs, hfn, hl⟩ := leaves_stepsInM a'.defers .returning w' { b.atR a' [] with mode := .returning } cs rfl rfl rfl hf rfl hF hr hq
    exact ⟨e', w'', fr', hR, ComesIn.of_steps (StepsIn.trans harr (.one (fenced_calm (fr := b.atR a' []) hF hr rfl) (stepR_end rfl))) hs, hfn, hl⟩
  | ret =>
    obtain ⟨todo, hs₀⟩ := harr.1 rfl
    obtain ⟨e', w'', fr', hR, hs, hfn, hl⟩ := leaves_stepsInM a'.defers .returning w' { b.atR a' todo with mode := .returning } cs rfl rfl rfl hf rfl hF hr hq
    exact ⟨e', w'', fr', hR, ComesIn.of_steps hs₀ hs, hfn, hl⟩
  | panic chain =>
    obtain ⟨todo, hs₀⟩ := harr
    obtain ⟨e', w'', fr', hR, hs, hfn, hl⟩ := leaves_stepsInM a'.defers (.panicking chain) w' { b.atR a' todo with mode := .panicking chain } cs rfl rfl rfl hf rfl hF hr hq
    exact ⟨e', w'', fr', hR, ComesIn.of_steps hs₀ hs, hfn, hl⟩
  | exit id => exact hq.elim
  | goto l => exact hq.elim
  | outgrown => exact ⟨.outgrown, w', b, hq, harr.resolve_left (by simp [b]), rfl, trivial⟩

end Go.Proofs.YtfjdbbhaigjbmaaGreat.RangeP
