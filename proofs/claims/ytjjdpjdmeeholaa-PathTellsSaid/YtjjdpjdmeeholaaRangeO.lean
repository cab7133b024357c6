/-
  A range over a function whose iterator writes what is its own: the statement, by the loop's record laid open; a round, out of its body's walk.
-/
import Derived.RangeFuncNested
import Derived.RangeFuncLeaves
import Derived.RangeFuncCalls
import Derived.RangeFuncBound
import Derived.OwnWalkIn
import Derived.Test.YtjjdpjdmeeholaaBaseG
namespace Go.Proofs.Ytjjdpjdmeeholaa.RangeO
open Go.RowKit Mem

variable {F : Fence} {n : Nat} {P : Program}

theorem kept_putObj (W : World) (l : Nat) (o : Obj) : Kept (· = l) W (W.putObj l o) :=
  Kept.grown (Kept.refl _ _) (grownBy_putObj' W l o) (fun k e => by cases e; exact .inl rfl)

/-- A loop's record. -/
def recd (fn : FuncId) (tmps : Array Value) (ps : Array Tmp) (assign body : Code) (D : Nat) (st : LoopState) (pe : Option Code) : Loop := { state := st, pending := pe, fn, tmps, params := ps, assign, body, defers := D }

/-- The record, by one letter. -/
theorem recd_name {W : World} {l : Nat} {fn : FuncId} {tmps : Array Value} {ps : Array Tmp} {assign body : Code} {D : Nat} {st : LoopState} {pe : Option Code} (_ : W.heap[l]? = some (.loop (recd fn tmps ps assign body D st pe))) :
    ∃ rec : LoopState → Option Code → Loop, ∀ st pe, rec st pe = recd fn tmps ps assign body D st pe := ⟨_, fun _ _ => rfl⟩

theorem room_of_none (hd : F.depth = none) (k : Nat) : F.room k := fun d h => by rw [hd] at h; cases h
theorem any_depth (hd : F.depth = none) {m : Nat} (m' : Nat) {l : Nat} {args : Array Value} {W : World} {R : Ending → World → Prop} (h : YieldAt F m P l args W R) : YieldAt F m' P l args W R := by
  obtain ⟨fn, tmps, assign, body, hy, hR⟩ := h
  exact ⟨fn, tmps, assign, body, hy, hR.1, fun c cs _ => hR.2 c cs (room_of_none hd _)⟩

/-- How the body of a round may be left. -/
def outPost (l : Nat) (busy : Loop) (Go_ : World → Prop) (St : Code → World → Prop) : Exit → Act → World → Prop
  | .normal, _, W => W.heap[l]? = some (.loop busy) ∧ Go_ W
  | .ret, _, W => W.heap[l]? = some (.loop busy) ∧ St .ret W
  | .exit id, _, W => W.heap[l]? = some (.loop busy) ∧ St (.exit id) W
  | .goto t, _, W => W.heap[l]? = some (.loop busy) ∧ St (.goto t) W
  | .panic _, _, _ => False
  | .outgrown, _, _ => False

/-- ONE ROUND. -/
theorem yieldAt_of {l m : Nat} {fn : FuncId} {tmps : Array Value} {ps : Array Tmp} {assign body : Code} {D : Nat} {W : World} {args : Array Value} {R : Ending → World → Prop} {Go_ : World → Prop} {St : Code → World → Prop}
    (hl : W.heap[l]? = some (.loop (recd fn tmps ps assign body D .ready none))) (hfn : F.fn fn) (hsz : args.size = ps.size)
    (h : assign.wpIn (F.inRound l) m P (Exit.then (fun a₁ W₁ => W₁ = W ∧ ∀ W₂, Kept (· = l) W W₂ → W₂.heap.size = W.heap.size → W₂.heap[l]? = some (.loop (recd fn tmps ps assign body D .busy none)) → body.wpIn (F.inRound l) m P (outPost l (recd fn tmps ps assign body D .busy none) Go_ St) a₁ W₂) (fun _ _ _ => False))
      { tmps := (ps.zip args).foldl (fun t (p, v) => t.setIfInBounds p v) tmps, defers := [] } W)
    (hgo : ∀ W₁ W₂, Go_ W₁ → Kept (· = l) W₁ W₂ → W₂.heap[l]? = some (.loop (recd fn tmps ps assign body D .ready none)) → R (.returned (.bool true)) W₂)
    (hst : ∀ c W₁ W₂, St c W₁ → Kept (· = l) W₁ W₂ → W₂.heap[l]? = some (.loop (recd fn tmps ps assign body D .done (some c))) → R (.returned (.bool false)) W₂) :
    YieldAt F m P l args W R := by
  have hlt : l < W.heap.size := (Array.getElem?_eq_some_iff.1 hl).1
  have hy := run_yield (P := P) (args := args) hl hsz
  refine ⟨fn, _, assign, body, hy, roundIn_of_wpIn hfn (wpIn_mono h ?_)⟩
  rintro e a₁ W₁ hp
  cases e with
  | normal =>
    obtain ⟨rfl, hbody⟩ := hp
    refine ⟨_, run_beginRound hl rfl, wpIn_mono (hbody _ (kept_putObj _ _ _) (by simp [World.putObj]) (World.putObj_heap_same hlt)) ?_⟩
    have fin : ∀ (jump : Option Code) (W3 : World), W3.heap[l]? = some (.loop (recd fn tmps ps assign body D .busy none)) →
        (Instr.endRound l jump).run P W3 = .ok (.bool jump.isNone) (W3.putObj l (.loop (recd fn tmps ps assign body D (if jump.isNone then .ready else .done) jump))) ∧
        (W3.putObj l (.loop (recd fn tmps ps assign body D (if jump.isNone then .ready else .done) jump))).heap[l]? = some (.loop (recd fn tmps ps assign body D (if jump.isNone then .ready else .done) jump)) := fun jump W3 hl3 =>
      ⟨run_endRound (P := P) jump hl3, World.putObj_heap_same (Array.getElem?_eq_some_iff.1 hl3).1⟩
    rintro e a3 W3 hp
    cases e with
    | normal => exact ⟨_, _, (fin none W3 hp.1).1, hgo _ _ hp.2 (kept_putObj _ _ _) (fin none W3 hp.1).2⟩
    | ret => exact ⟨_, _, (fin (some .ret) W3 hp.1).1, hst _ _ _ hp.2 (kept_putObj _ _ _) (fin (some .ret) W3 hp.1).2⟩
    | exit id => exact ⟨_, _, (fin (some (.exit id)) W3 hp.1).1, hst _ _ _ hp.2 (kept_putObj _ _ _) (fin (some (.exit id)) W3 hp.1).2⟩
    | goto t => exact ⟨_, _, (fin (some (.goto t)) W3 hp.1).1, hst _ _ _ hp.2 (kept_putObj _ _ _) (fin (some (.goto t)) W3 hp.1).2⟩
    | panic ch => exact hp.elim
    | outgrown => exact hp.elim
  | exit id => exact hp.elim
  | goto t => exact hp.elim
  | ret => exact hp.elim
  | panic chain => exact hp.elim
  | outgrown => exact hp.elim

/-- THE STATEMENT. -/
theorem wpIn_rangeFunc_open {g : Operand} {ps : Array Tmp} {assign body : Code} {Q : Exit → Act → World → Prop} {a : Act} {w : World}
    (hro : F.round = none) (h1 : 1 ≤ n) {gf : Nat} {fb lb : Array Value} (hg : a.eval g = .func (.func gf) fb lb) (hFg : F.fn gf) (eg : ∀ args w, (callFunc gf args).run P w = .ok (.enter gf args) w)
    (Done : World → Prop) (Stop : Code → World → Prop)
    (h : ∀ (fn : FuncId) (W : World), F.fn fn → Below w.heap.size w W → W.heap.size = w.heap.size + 2 → W.heap[w.heap.size]? = some (.deferred (some [])) → W.heap[w.heap.size + 1]? = some (.loop (recd fn a.tmps ps assign body w.heap.size .ready none)) →
      CallsIn F (n - 1) P gf (fb ++ #[.func (.yield (w.heap.size + 1)) #[] #[]] ++ lb) W fun e W' => (∃ v, e = .returned v) ∧ W'.heap[w.heap.size]? = some (.deferred (some [])) ∧
        ((W'.heap[w.heap.size + 1]? = some (.loop (recd fn a.tmps ps assign body w.heap.size .ready none)) ∧ Done W') ∨ ∃ c, W'.heap[w.heap.size + 1]? = some (.loop (recd fn a.tmps ps assign body w.heap.size .done (some c))) ∧ Stop c W'))
    (hdone : ∀ W W', Done W → Kept (· = w.heap.size + 1) W W' → W'.heap[w.heap.size]? = some (.deferred (some [])) → Q .normal { a with defers := { target := .collected w.heap.size, args := #[] } :: a.defers } W')
    (hstop : ∀ c W W', Stop c W → Kept (· = w.heap.size + 1) W W' → W'.heap[w.heap.size]? = some (.deferred (some [])) → c.wpIn F n P Q { a with defers := { target := .collected w.heap.size, args := #[] } :: a.defers } W') :
    (Code.rangeFunc g ps assign body).wpIn F n P Q a w := by
  refine wpIn_rangeFunc ?_
  intro fn hfn
  rw [hro]
  obtain ⟨W1, hW1⟩ : ∃ W1, (w.alloc (.deferred (some []))).alloc (.loop (recd fn a.tmps ps assign body w.heap.size .ready none)) = W1 := ⟨_, rfl⟩
  have hL1 : W1.heap[w.heap.size + 1]? = some (.loop (recd fn a.tmps ps assign body w.heap.size .ready none)) := by
    rw [← hW1]; have := World.alloc_heap_new (w.alloc (.deferred (some []))) (.loop (recd fn a.tmps ps assign body w.heap.size .ready none)); rwa [World.size_alloc] at this
  have hK1 : W1.heap[w.heap.size]? = some (.deferred (some [])) := by
    rw [← hW1]; exact (Below.heap_alloc _ _ _ (by simp)).trans (World.alloc_heap_new w _)
  have hb1 : Below w.heap.size w W1 := by
    rw [← hW1]; exact ((Below.refl _ w).alloc (Nat.le_refl _) _).alloc (by simp) _
  have hs1 : W1.heap.size = w.heap.size + 2 := by rw [← hW1]; simp
  refine ⟨w.heap.size + 1, [{ target := .collected w.heap.size, args := #[] }], W1, { target := .fn (.func gf) lb, args := fb ++ #[.func (.yield (w.heap.size + 1)) #[] #[]] }, W1, gf,
    fb ++ #[.func (.yield (w.heap.size + 1)) #[] #[]] ++ lb, W1, ?_, ?_, ?_, ?_, fun _ => h1, ?_⟩
  · rw [← hW1]; exact run_enterLoop_outer _ _ _ _ _
  · simp only [resolve, hg]
    simp [go_sem]
  · intro f' hf'; simp [Target.leads] at hf'; subst hf'; exact hFg
  · simp [invoke, go_sem, eg]
  · refine (h fn W1 hfn hb1 hs1 hK1 hL1).mono ?_
    rintro e W2 ⟨⟨v, rfl⟩, hd, ⟨hl, hD⟩ | ⟨c, hl, hS⟩⟩
    · exact ⟨none, _, run_endLoop (P := P) hl (by simp [recd]), hdone _ _ hD (kept_putObj _ _ _) ((World.putObj_heap_other (by omega)).trans hd)⟩
    · exact ⟨some c, _, run_endLoop (P := P) hl (by simp [recd]), hstop c _ _ hS (kept_putObj _ _ _) ((World.putObj_heap_other (by omega)).trans hd)⟩

/-! ### Marks that many ranges leave among the deferred calls -/
def Marks (B : Nat) (w : World) : List Deferred → Prop
  | [] => True
  | d :: ds => (∃ r, d = { target := .collected r, args := #[] } ∧ B ≤ r ∧ w.heap[r]? = some (.deferred (some [])) ∧ ∀ d' ∈ ds, ∀ r', d' = { target := .collected r', args := #[] } → r' ≠ r) ∧ Marks B w ds
theorem Marks.keep_ {B : Nat} {w w' : World} : ∀ (ds : List Deferred), Marks B w ds → (∀ r, w.heap[r]? = some (.deferred (some [])) → (∃ d ∈ ds, d = { target := .collected r, args := #[] }) → w'.heap[r]? = some (.deferred (some []))) → Marks B w' ds
  | [], _, _ => trivial
  | d :: ds, ⟨⟨r, e, h1, h2, h3⟩, h4⟩, k => ⟨⟨r, e, h1, k r h2 ⟨d, List.mem_cons_self .., e⟩, h3⟩, keep_ ds h4 (fun r' hr ⟨d', hd, e'⟩ => k r' hr ⟨d', List.mem_cons_of_mem _ hd, e'⟩)⟩
theorem Marks.keep {B : Nat} {w w' : World} {ds : List Deferred} (h : Marks B w ds) (k : ∀ r, w.heap[r]? = some (.deferred (some [])) → (∃ d ∈ ds, d = { target := .collected r, args := #[] }) → w'.heap[r]? = some (.deferred (some []))) : Marks B w' ds := keep_ ds h k
theorem Marks.mem_ {B : Nat} {w : World} : ∀ (ds : List Deferred), Marks B w ds → ∀ d' ∈ ds, ∀ r', d' = { target := .collected r', args := #[] } → w.heap[r']? = some (.deferred (some []))
  | [], _, _, h, _, _ => absurd h (by simp)
  | d :: ds, ⟨⟨r, e, h1, h2, h3⟩, h4⟩, d', hd, r', e' => by
    rcases List.mem_cons.1 hd with rfl | hd
    · rw [e] at e'
      simp only [Deferred.mk.injEq, Target.collected.injEq, and_true] at e'
      rw [← e']; exact h2
    · exact mem_ ds h4 d' hd r' e'
theorem Marks.mem {B : Nat} {w : World} {ds : List Deferred} (h : Marks B w ds) (d' : Deferred) (hd : d' ∈ ds) (r' : Nat) (e : d' = { target := .collected r', args := #[] }) : w.heap[r']? = some (.deferred (some [])) := mem_ ds h d' hd r' e
theorem Marks.push {B : Nat} {w w' : World} {ds : List Deferred} {D : Nat} (h : Marks B w ds) (hD : w.heap.size ≤ D) (hB : B ≤ D) (hw : w'.heap[D]? = some (Obj.deferred (some []))) (k : ∀ (r : Nat), w.heap[r]? = some (Obj.deferred (some [])) → w'.heap[r]? = some (Obj.deferred (some []))) : Marks B w' ({ target := .collected D, args := #[] } :: ds) :=
  ⟨⟨D, rfl, hB, hw, fun d' hd r' e' => by have := (Array.getElem?_eq_some_iff.1 (h.mem d' hd r' e')).1; omega⟩, h.keep (fun r hr _ => k r hr)⟩
theorem leaves_marks {fn : Func} {tmps : Array Value} {R : Ending → World → Prop} {B : Nat} : ∀ (ds : List Deferred) (w : World), Marks B w ds → (∀ w', Kept (B ≤ ·) w w' → LeavesIn F n P fn tmps R [] .returning w') → LeavesInM F n P fn tmps R ds .returning w
  | [], w, _, h => h w (Kept.refl _ _)
  | d :: ds, w, ⟨⟨r, e, h1, h2, h3⟩, h4⟩, h => by
    subst e
    have hk := kept_putObj w r (.deferred none)
    refine ⟨by simp, .inl ⟨r, _, rfl, run_takeDeferred h2, leaves_marks ds _ (h4.keep ?_) (fun w' hw => h w' ((hk.mono (S' := (B ≤ ·)) (fun i q => by rw [q]; exact h1)).trans hw))⟩⟩
    rintro r' hr' ⟨d', hd, e'⟩
    exact (World.putObj_heap_other (fun q => h3 d' hd r' e' q)).trans hr'

end Go.Proofs.Ytjjdpjdmeeholaa.RangeO
