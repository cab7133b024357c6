/-
  A range over a function whose iterator writes what is its own: the statement, by the loop's record laid open; a round, out of its body's walk.
  Package path, walked: the whole; how two paths stand; each kid's number and place, told to a loop's body.
  Package path, walked: each kid's number and place, told to a loop's body; the node of a path.
  Package path, walked: a node and all below it, told place by place to a loop's body, with their paths (a method that calls itself and keeps where it stands).
  Package path, walked: a node's path.
  Package path, walked: the node of a path.
  Package path: what its functions come to.
-/
import Derived.RangeFuncNested
import Derived.RangeFuncLeaves
import Derived.RangeFuncCalls
import Derived.RangeFuncBound
import Derived.OwnWalkIn
import Derived.Test.YtlaidcahkafgoaaBaseG
import Derived.Test.YtlaidcahkafgoaaPathG
import Derived.Shelf.Abstract
import Derived.Shelf.RegionOpen
import Derived.TacticsInMore
import Derived.LoopNIn
import Derived.LoopIn
import Derived.Laws.EntriesVeiled
import Derived.Maps.OwnIn
namespace Go.Proofs.Ytlaidcahkafgoaa.RangeO
open Go.RowKit Mem

variable {F : Fence} {n : Nat} {P : Program}

theorem kept_putObj (W : World) (l : Nat) (o : Obj) : Kept (· = l) W (W.putObj l o) :=
  Kept.grown (Kept.refl _ _) (grownBy_putObj' W l o) (fun k e => by cases e; exact .inl rfl)

/-- A loop's record. -/
def recd (fn : FuncId) (tmps : Array Value) (ps : Array Tmp) (assign body : Code) (D : Nat) (st : LoopState) (pe : Option Code) : Loop := { state := st, pending := pe, fn, tmps, params := ps, assign, body, defers := D }

/-- The record, by one letter. -/
theorem recd_name {W : World} {l : Nat} {fn : FuncId} {tmps : Array Value} {ps : Array Tmp} {assign body : Code} {D : Nat} {st : LoopState} {pe : Option Code} (_ : W.heap[l]? = some (.loop (recd fn tmps ps assign body D st pe))) :
    ∃ rec : LoopState → Option Code → Loop, ∀ st pe, rec st pe = recd fn tmps ps assign body D st pe := ⟨_, fun _ _ => rfl⟩

theorem room_of_none (hd : F.depth = none) (k : Nat) : F.room k := fun d h => by rw [hd] at h; cases h
theorem any_depth (hd : F.depth = none) {m : Nat} (m' : Nat) {l : Nat} {args : Array Value} {W : World} {R : Ending → World → Prop} (h : YieldAt F m P l args W R) : YieldAt F m' P l args W R := by
  obtain ⟨fn, tmps, assign, body, hy, hR⟩ := h
  exact ⟨fn, tmps, assign, body, hy, hR.1, fun c cs _ => hR.2 c cs (room_of_none hd _)⟩

/-- How the body of a round may be left. -/
def outPost (l : Nat) (busy : Loop) (Go_ : World → Prop) (St : Code → World → Prop) : Exit → Act → World → Prop
  | .normal, _, W => W.heap[l]? = some (.loop busy) ∧ Go_ W
  | .ret, _, W => W.heap[l]? = some (.loop busy) ∧ St .ret W
  | .exit id, _, W => W.heap[l]? = some (.loop busy) ∧ St (.exit id) W
  | .goto t, _, W => W.heap[l]? = some (.loop busy) ∧ St (.goto t) W
  | .panic _, _, _ => False
  | .outgrown, _, _ => False

/-- ONE ROUND. -/
theorem yieldAt_of {l m : Nat} {fn : FuncId} {tmps : Array Value} {ps : Array Tmp} {assign body : Code} {D : Nat} {W : World} {args : Array Value} {R : Ending → World → Prop} {Go_ : World → Prop} {St : Code → World → Prop}
    (hl : W.heap[l]? = some (.loop (recd fn tmps ps assign body D .ready none))) (hfn : F.fn fn) (hsz : args.size = ps.size)
    (h : assign.wpIn (F.inRound l) m P (Exit.then (fun a₁ W₁ => W₁ = W ∧ ∀ W₂, Kept (· = l) W W₂ → W₂.heap.size = W.heap.size → W₂.heap[l]? = some (.loop (recd fn tmps ps assign body D .busy none)) → body.wpIn (F.inRound l) m P (outPost l (recd fn tmps ps assign body D .busy none) Go_ St) a₁ W₂) (fun _ _ _ => False))
      { tmps := (ps.zip args).foldl (fun t (p, v) => t.setIfInBounds p v) tmps, defers := [] } W)
    (hgo : ∀ W₁ W₂, Go_ W₁ → Kept (· = l) W₁ W₂ → W₂.heap[l]? = some (.loop (recd fn tmps ps assign body D .ready none)) → R (.returned (.bool true)) W₂)
    (hst : ∀ c W₁ W₂, St c W₁ → Kept (· = l) W₁ W₂ → W₂.heap[l]? = some (.loop (recd fn tmps ps assign body D .done (some c))) → R (.returned (.bool false)) W₂) :
    YieldAt F m P l args W R := by
  have hlt : l < W.heap.size := (Array.getElem?_eq_some_iff.1 hl).1
  have hy := run_yield (P := P) (args := args) hl hsz
  refine ⟨fn, _, assign, body, hy, roundIn_of_wpIn hfn (wpIn_mono h ?_)⟩
  rintro e a₁ W₁ hp
  cases e with
  | normal =>
    obtain ⟨rfl, hbody⟩ := hp
    refine ⟨_, run_beginRound hl rfl, wpIn_mono (hbody _ (kept_putObj _ _ _) (by simp [World.putObj]) (World.putObj_heap_same hlt)) ?_⟩
    have fin : ∀ (jump : Option Code) (W3 : World), W3.heap[l]? = some (.loop (recd fn tmps ps assign body D .busy none)) →
        (Instr.endRound l jump).run P W3 = .ok (.bool jump.isNone) (W3.putObj l (.loop (recd fn tmps ps assign body D (if jump.isNone then .ready else .done) jump))) ∧
        (W3.putObj l (.loop (recd fn tmps ps assign body D (if jump.isNone then .ready else .done) jump))).heap[l]? = some (.loop (recd fn tmps ps assign body D (if jump.isNone then .ready else .done) jump)) := fun jump W3 hl3 =>
      ⟨run_endRound (P := P) jump hl3, World.putObj_heap_same (Array.getElem?_eq_some_iff.1 hl3).1⟩
    rintro e a3 W3 hp
    cases e with
    | normal => exact ⟨_, _, (fin none W3 hp.1).1, hgo _ _ hp.2 (kept_putObj _ _ _) (fin none W3 hp.1).2⟩
    | ret => exact ⟨_, _, (fin (some .ret) W3 hp.1).1, hst _ _ _ hp.2 (kept_putObj _ _ _) (fin (some .ret) W3 hp.1).2⟩
    | exit id => exact ⟨_, _, (fin (some (.exit id)) W3 hp.1).1, hst _ _ _ hp.2 (kept_putObj _ _ _) (fin (some (.exit id)) W3 hp.1).2⟩
    | goto t => exact ⟨_, _, (fin (some (.goto t)) W3 hp.1).1, hst _ _ _ hp.2 (kept_putObj _ _ _) (fin (some (.goto t)) W3 hp.1).2⟩
    | panic ch => exact hp.elim
    | outgrown => exact hp.elim
  | exit id => exact hp.elim
  | goto t => exact hp.elim
  | ret => exact hp.elim
  | panic chain => exact hp.elim
  | outgrown => exact hp.elim

/-- THE STATEMENT. -/
theorem wpIn_rangeFunc_open {g : Operand} {ps : Array Tmp} {assign body : Code} {Q : Exit → Act → World → Prop} {a : Act} {w : World}
    (hro : F.round = none) (h1 : 1 ≤ n) {gf : Nat} {fb lb : Array Value} (hg : a.eval g = .func (.func gf) fb lb) (hFg : F.fn gf) (eg : ∀ args w, (callFunc gf args).run P w = .ok (.enter gf args) w)
    (Done : World → Prop) (Stop : Code → World → Prop)
    (h : ∀ (fn : FuncId) (W : World), F.fn fn → Below w.heap.size w W → W.heap.size = w.heap.size + 2 → W.heap[w.heap.size]? = some (.deferred (some [])) → W.heap[w.heap.size + 1]? = some (.loop (recd fn a.tmps ps assign body w.heap.size .ready none)) →
      CallsIn F (n - 1) P gf (fb ++ #[.func (.yield (w.heap.size + 1)) #[] #[]] ++ lb) W fun e W' => (∃ v, e = .returned v) ∧ W'.heap[w.heap.size]? = some (.deferred (some [])) ∧
        ((W'.heap[w.heap.size + 1]? = some (.loop (recd fn a.tmps ps assign body w.heap.size .ready none)) ∧ Done W') ∨ ∃ c, W'.heap[w.heap.size + 1]? = some (.loop (recd fn a.tmps ps assign body w.heap.size .done (some c))) ∧ Stop c W'))
    (hdone : ∀ W W', Done W → Kept (· = w.heap.size + 1) W W' → W'.heap[w.heap.size]? = some (.deferred (some [])) → Q .normal { a with defers := { target := .collected w.heap.size, args := #[] } :: a.defers } W')
    (hstop : ∀ c W W', Stop c W → Kept (· = w.heap.size + 1) W W' → W'.heap[w.heap.size]? = some (.deferred (some [])) → c.wpIn F n P Q { a with defers := { target := .collected w.heap.size, args := #[] } :: a.defers } W') :
    (Code.rangeFunc g ps assign body).wpIn F n P Q a w := by
  refine wpIn_rangeFunc ?_
  intro fn hfn
  rw [hro]
  obtain ⟨W1, hW1⟩ : ∃ W1, (w.alloc (.deferred (some []))).alloc (.loop (recd fn a.tmps ps assign body w.heap.size .ready none)) = W1 := ⟨_, rfl⟩
  have hL1 : W1.heap[w.heap.size + 1]? = some (.loop (recd fn a.tmps ps assign body w.heap.size .ready none)) := by
    rw [← hW1]; have := World.alloc_heap_new (w.alloc (.deferred (some []))) (.loop (recd fn a.tmps ps assign body w.heap.size .ready none)); rwa [World.size_alloc] at this
  have hK1 : W1.heap[w.heap.size]? = some (.deferred (some [])) := by
    rw [← hW1]; exact (Below.heap_alloc _ _ _ (by simp)).trans (World.alloc_heap_new w _)
  have hb1 : Below w.heap.size w W1 := by
    rw [← hW1]; exact ((Below.refl _ w).alloc (Nat.le_refl _) _).alloc (by simp) _
  have hs1 : W1.heap.size = w.heap.size + 2 := by rw [← hW1]; simp
  refine ⟨w.heap.size + 1, [{ target := .collected w.heap.size, args := #[] }], W1, { target := .fn (.func gf) lb, args := fb ++ #[.func (.yield (w.heap.size + 1)) #[] #[]] }, W1, gf,
    fb ++ #[.func (.yield (w.heap.size + 1)) #[] #[]] ++ lb, W1, ?_, ?_, ?_, ?_, fun _ => h1, ?_⟩
  · rw [← hW1]; exact run_enterLoop_outer _ _ _ _ _
  · simp only [resolve, hg]
    simp [go_sem]
  · intro f' hf'; simp [Target.leads] at hf'; subst hf'; exact hFg
  · simp [invoke, go_sem, eg]
  · refine (h fn W1 hfn hb1 hs1 hK1 hL1).mono ?_
    rintro e W2 ⟨⟨v, rfl⟩, hd, ⟨hl, hD⟩ | ⟨c, hl, hS⟩⟩
    · exact ⟨none, _, run_endLoop (P := P) hl (by simp [recd]), hdone _ _ hD (kept_putObj _ _ _) ((World.putObj_heap_other (by omega)).trans hd)⟩
    · exact ⟨some c, _, run_endLoop (P := P) hl (by simp [recd]), hstop c _ _ hS (kept_putObj _ _ _) ((World.putObj_heap_other (by omega)).trans hd)⟩

/-! ### Marks that many ranges leave among the deferred calls -/
def Marks (B : Nat) (w : World) : List Deferred → Prop
  | [] => True
  | d :: ds => (∃ r, d = { target := .collected r, args := #[] } ∧ B ≤ r ∧ w.heap[r]? = some (.deferred (some [])) ∧ ∀ d' ∈ ds, ∀ r', d' = { target := .collected r', args := #[] } → r' ≠ r) ∧ Marks B w ds
theorem Marks.keep_ {B : Nat} {w w' : World} : ∀ (ds : List Deferred), Marks B w ds → (∀ r, w.heap[r]? = some (.deferred (some [])) → (∃ d ∈ ds, d = { target := .collected r, args := #[] }) → w'.heap[r]? = some (.deferred (some []))) → Marks B w' ds
  | [], _, _ => trivial
  | d :: ds, ⟨⟨r, e, h1, h2, h3⟩, h4⟩, k => ⟨⟨r, e, h1, k r h2 ⟨d, List.mem_cons_self .., e⟩, h3⟩, keep_ ds h4 (fun r' hr ⟨d', hd, e'⟩ => k r' hr ⟨d', List.mem_cons_of_mem _ hd, e'⟩)⟩
theorem Marks.keep {B : Nat} {w w' : World} {ds : List Deferred} (h : Marks B w ds) (k : ∀ r, w.heap[r]? = some (.deferred (some [])) → (∃ d ∈ ds, d = { target := .collected r, args := #[] }) → w'.heap[r]? = some (.deferred (some []))) : Marks B w' ds := keep_ ds h k
theorem Marks.mem_ {B : Nat} {w : World} : ∀ (ds : List Deferred), Marks B w ds → ∀ d' ∈ ds, ∀ r', d' = { target := .collected r', args := #[] } → w.heap[r']? = some (.deferred (some []))
  | [], _, _, h, _, _ => absurd h (by simp)
  | d :: ds, ⟨⟨r, e, h1, h2, h3⟩, h4⟩, d', hd, r', e' => by
    rcases List.mem_cons.1 hd with rfl | hd
    · rw [e] at e'
      simp only [Deferred.mk.injEq, Target.collected.injEq, and_true] at e'
      rw [← e']; exact h2
    · exact mem_ ds h4 d' hd r' e'
theorem Marks.mem {B : Nat} {w : World} {ds : List Deferred} (h : Marks B w ds) (d' : Deferred) (hd : d' ∈ ds) (r' : Nat) (e : d' = { target := .collected r', args := #[] }) : w.heap[r']? = some (.deferred (some [])) := mem_ ds h d' hd r' e
theorem Marks.push {B : Nat} {w w' : World} {ds : List Deferred} {D : Nat} (h : Marks B w ds) (hD : w.heap.size ≤ D) (hB : B ≤ D) (hw : w'.heap[D]? = some (Obj.deferred (some []))) (k : ∀ (r : Nat), w.heap[r]? = some (Obj.deferred (some [])) → w'.heap[r]? = some (Obj.deferred (some []))) : Marks B w' ({ target := .collected D, args := #[] } :: ds) :=
  ⟨⟨D, rfl, hB, hw, fun d' hd r' e' => by have := (Array.getElem?_eq_some_iff.1 (h.mem d' hd r' e')).1; omega⟩, h.keep (fun r hr _ => k r hr)⟩
theorem leaves_marks {fn : Func} {tmps : Array Value} {R : Ending → World → Prop} {B : Nat} : ∀ (ds : List Deferred) (w : World), Marks B w ds → (∀ w', Kept (B ≤ ·) w w' → LeavesIn F n P fn tmps R [] .returning w') → LeavesInM F n P fn tmps R ds .returning w
  | [], w, _, h => h w (Kept.refl _ _)
  | d :: ds, w, ⟨⟨r, e, h1, h2, h3⟩, h4⟩, h => by
    subst e
    have hk := kept_putObj w r (.deferred none)
    refine ⟨by simp, .inl ⟨r, _, rfl, run_takeDeferred h2, leaves_marks ds _ (h4.keep ?_) (fun w' hw => h w' ((hk.mono (S' := (B ≤ ·)) (fun i q => by rw [q]; exact h1)).trans hw))⟩⟩
    rintro r' hr' ⟨d', hd, e'⟩
    exact (World.putObj_heap_other (fun q => h3 d' hd r' e' q)).trans hr'

end Go.Proofs.Ytlaidcahkafgoaa.RangeO

namespace Go.Proofs.Ytlaidcahkafgoaa.Path
open Go.RowKit Go.Shelf Mem _root_.Go.Proofs.Ytlaidcahkafgoaa.Arena
set_option linter.unusedVariables false
attribute [local go_sem ↓] Go.wp_at_zero Go.wp_at_succ

/-- Kids one by one: how much stands ahead of each. -/
theorem row_scan (l : List Nd) : ∀ (c s n : Nat), scan c (l.drop s) = some n → ∀ j, j < c → ∃ r m : Nat, scan j (l.drop s) = some r ∧ (kidsFrom l c s)[j]? = some ((s + r : Nat) : Int) ∧ T l (s + r) m ∧ scan (j + 1) (l.drop s) = some (r + m) ∧ r + m ≤ n
  | 0, s, n, h, j, hj => absurd hj (by omega)
  | c + 1, s, n, h, j, hj => by
    rw [Nat.add_comm, scan_add] at h
    cases h1 : scan 1 (l.drop s) with
    | none => rw [h1] at h; cases h
    | some n1 =>
      rw [h1] at h
      simp only [Option.bind_some, Option.map_eq_some_iff, List.drop_drop] at h
      obtain ⟨m, h2, rfl⟩ := h
      have ek : aend l (s : Int) = ((s + n1 : Nat) : Int) := T.end h1
      cases j with
      | zero => exact ⟨0, n1, scan_0 _, by rw [kidsFrom]; rfl, h1, by rw [h1, Nat.zero_add], by omega⟩
      | succ j =>
        obtain ⟨r, m', r1, r2, r3, r4, r5⟩ := row_scan l c (s + n1) m h2 j (by omega)
        refine ⟨n1 + r, m', ?_, ?_, by rw [← Nat.add_assoc]; exact r3, ?_, by omega⟩
        · rw [Nat.add_comm j 1, scan_add, h1]
          simp only [Option.bind_some, List.drop_drop, r1, Option.map_some]
        · rw [kidsFrom, ek, List.getElem?_cons_succ, r2, Nat.add_assoc]
        · rw [Nat.add_comm (j + 1) 1, scan_add, h1]
          simp only [Option.bind_some, List.drop_drop, r4, Option.map_some, Nat.add_assoc]
/-- A node's kid. -/
theorem kid_scan {l : List Nd} {a n : Nat} (h : T l a n) : ∃ x c, l[a]? = some x ∧ ar x = ((c : Nat) : Int) ∧ c ≤ 200 ∧ (akids l a).length = c ∧ scan c (l.drop (a + 1)) = some (n - 1) ∧ 1 ≤ n ∧ a + n ≤ l.length ∧
    ∀ j, j < c → ∃ r m : Nat, scan j (l.drop (a + 1)) = some r ∧ (akids l a)[j]? = some ((a + 1 + r : Nat) : Int) ∧ T l (a + 1 + r) m ∧ scan (j + 1) (l.drop (a + 1)) = some (r + m) ∧ r + m ≤ n - 1 := by
  obtain ⟨x, h1, h2, h3, h4, h5, h6⟩ := node_kids h
  have := (ar_le x).2
  refine ⟨x, (ar x).toNat, h1, by omega, by omega, by rw [h3, kids_len], h4, h5, h6, fun j hj => ?_⟩
  rw [h3]
  exact row_scan l _ _ _ h4 j hj

set_option maxRecDepth 100000 in
theorem whole_any (A : Option Addr) (cap : Nat) (l : List Nd) (w : World) (hx : Nodes w w.heap.size A l) (hl : l.length ≤ 1000000) :
    Calls Try.prog 47 #[.slice A l.length cap] w fun e w' => e = .returned (.bool (aend l 0 == (l.length : Int))) ∧ Below w.heap.size w w' := by
  have HE := Lib.hid (End_any A cap l 0 w hx hl)
  clear hx
  generalize aend l 0 = z at *
  go_enter Try.func47, Try.ntmps47
  go_wp2_with (go_at_call 15; refine HE.out.mono ?_; rintro e w1 ⟨rfl, hb1⟩)
  go_ret
  exact ⟨rfl, hb1⟩

set_option maxRecDepth 100000 in
theorem p_nan_any (x : Int) (w : World) : Calls Try.prog 43 #[.int .i64 x] w fun e w' => e = .returned (.bool false) ∧ w' = w := by
  have h : (x != x) = false := by simp
  go_enter Try.func43, Try.ntmps43
  go_wp2
  go_ret
  first | exact ⟨rfl, rfl⟩ | exact ⟨by simp, rfl⟩
set_option maxRecDepth 100000 in
theorem p_cmp_any (x y : Int) (w : World) : Calls Try.prog 28 #[.int .i64 x, .int .i64 y] w fun e w' => e = .returned (.int .i64 (if x < y then -1 else if y < x then 1 else 0)) ∧ w' = w := by
  have HN := Lib.hid (fun z w => p_nan_any z w)
  by_cases h : x < y
  · rw [if_pos h]
    go_enter Try.func28, Try.ntmps28
    go_wp2_with (go_at_call 43; refine (HN.out _ _).mono ?_; rintro e w1 ⟨rfl, rfl⟩)
    go_ret
    exact ⟨rfl, rfl⟩
  · by_cases h2 : y < x
    · rw [if_neg h, if_pos h2]
      go_enter Try.func28, Try.ntmps28
      go_wp2_with (go_at_call 43; refine (HN.out _ _).mono ?_; rintro e w1 ⟨rfl, rfl⟩)
      go_ret
      exact ⟨rfl, rfl⟩
    · rw [if_neg h, if_neg h2]
      go_enter Try.func28, Try.ntmps28
      go_wp2_with (go_at_call 43; refine (HN.out _ _).mono ?_; rintro e w1 ⟨rfl, rfl⟩)
      go_ret
      exact ⟨rfl, rfl⟩

theorem cmp_one (x y : Int) (p q : List Int) : cmp (x :: p) (y :: q) = if (if x < y then (-1 : Int) else if y < x then 1 else 0) ≠ 0 then (if x < y then -1 else if y < x then 1 else 0) else cmp p q := by
  rw [cmp]
  by_cases h : x < y
  · simp [h]
  · by_cases h2 : y < x
    · simp [h, h2]
    · simp [h, h2]

set_option maxRecDepth 100000 in
set_option maxHeartbeats 2000000 in
theorem slices_Compare_any (A : Option Addr) (c : Nat) (p : List Int) (A' : Option Addr) (c' : Nat) (q : List Int) (w : World) (hx : IRow w w.heap.size A p) (hy : IRow w w.heap.size A' q) (hp : p.length ≤ 1000000) (hq : q.length ≤ 1000000) :
    Calls Try.prog 42 #[.slice A p.length c, .slice A' q.length c'] w fun e w' => e = .returned (.int .i64 (cmp p q)) ∧ Below w.heap.size w w' := by
  have HX := Lib.hid hx
  have HY := Lib.hid hy
  have HC := Lib.hid (fun x y w => p_cmp_any x y w)
  clear hx hy
  go_enter Try.func42, Try.ntmps42
  go_wp2
  go_loopw [11] (fun i wr => ∃ k : Nat, k ≤ p.length ∧ k ≤ q.length ∧ p.take k = q.take k ∧ i = .int .i64 k ∧ wr = w) (fun i _ => p.length - (intOf i).toNat)
  case atStart => exact ⟨0, by omega, by omega, rfl, rfl, rfl⟩
  case round =>
    obtain ⟨k, hk, hk2, hs, rfl, rfl⟩ := hrel
    by_cases h1 : k < p.length
    · have i1 : (k : Int) < (p.length : Int) := by omega
      obtain ⟨x, hxk⟩ : ∃ x, p[k]? = some x := ⟨_, List.getElem?_eq_getElem h1⟩
      obtain ⟨ad, rfl, hb, h0⟩ := HX.out k _ hxk
      have j2 : (0 : Int) ≤ (k : Int) := by omega
      by_cases h2 : k < q.length
      · have i2 : ¬ (q.length : Int) ≤ (k : Int) := by omega
        have i3 : (k : Int) < (q.length : Int) := by omega
        obtain ⟨y, hyk⟩ : ∃ y, q[k]? = some y := ⟨_, List.getElem?_eq_getElem h2⟩
        obtain ⟨ad', rfl, hb', g0⟩ := HY.out k _ hyk
        have hc := cmp_take p q k hs hk hk2
        rw [drop_at hxk, drop_at hyk, cmp_one] at hc
        have HXY := Lib.hid (HC.out x y wr)
        obtain ⟨z, hz⟩ : ∃ z : Int, (if x < y then (-1 : Int) else if y < x then 1 else 0) = z := ⟨_, rfl⟩
        rw [hz] at HXY hc
        by_cases hz0 : z = 0
        · have hxy : x = y := by
            by_cases h : x < y
            · rw [if_pos h] at hz; omega
            · by_cases h2 : y < x
              · rw [if_neg h, if_pos h2] at hz; omega
              · omega
          subst hxy
          subst hz0
          have HS := Lib.hid (show p.take (k + 1) = q.take (k + 1) by rw [List.take_add_one, List.take_add_one, hxk, hyk, hs])
          clear hxk hyk hs hc hz HC
          go_wp2_with (go_at_call 28; refine HXY.out.mono ?_; rintro e w1 ⟨rfl, rfl⟩)
          go_roundw
          case rel => exact ⟨k + 1, by omega, by omega, HS.out, by go_num, (by first | rfl | trivial)⟩
          case measure => simp [intOf]; omega
        · rw [if_pos hz0] at hc
          have HR := Lib.hid hc
          have e1 : (z != 0) = true := by simpa using hz0
          clear hxk hyk hs hc hz HC hz0
          go_wp2_with (go_at_call 28; refine HXY.out.mono ?_; rintro e w1 ⟨rfl, rfl⟩)
          go_ret
          exact ⟨by rw [HR.out]; rfl, Below.refl _ _⟩
      · have i2 : (q.length : Int) ≤ (k : Int) := by omega
        have hc := cmp_take p q k hs hk hk2
        rw [drop_at hxk, List.drop_eq_nil_of_le (by omega : q.length ≤ k), cmp] at hc
        have HR := Lib.hid hc
        clear hxk hs hc
        go_wp2
        go_ret
        exact ⟨by rw [HR.out]; rfl, Below.refl _ _⟩
    · have i1 : ¬ (k : Int) < (p.length : Int) := by omega
      have hc := cmp_take p q k hs hk hk2
      by_cases h2 : k < q.length
      · have l1 : (p.length : Int) < (q.length : Int) := by omega
        obtain ⟨y, hyk⟩ : ∃ y, q[k]? = some y := ⟨_, List.getElem?_eq_getElem h2⟩
        rw [drop_at hyk, List.drop_eq_nil_of_le (by omega : p.length ≤ k), cmp] at hc
        have HR := Lib.hid hc
        clear hyk hs hc
        go_wp2
        go_ret
        exact ⟨by rw [HR.out]; rfl, Below.refl _ _⟩
      · have l1 : ¬ (p.length : Int) < (q.length : Int) := by omega
        rw [List.drop_eq_nil_of_le (by omega : q.length ≤ k), List.drop_eq_nil_of_le (by omega : p.length ≤ k), cmp] at hc
        have HR := Lib.hid hc
        clear hs hc
        go_wp2
        go_ret
        exact ⟨by rw [HR.out]; rfl, Below.refl _ _⟩
set_option maxRecDepth 100000 in
theorem Compare_any (A : Option Addr) (c : Nat) (p : List Int) (A' : Option Addr) (c' : Nat) (q : List Int) (w : World) (hx : IRow w w.heap.size A p) (hy : IRow w w.heap.size A' q) (hp : p.length ≤ 1000000) (hq : q.length ≤ 1000000) :
    Calls Try.prog 27 #[.slice A p.length c, .slice A' q.length c'] w fun e w' => e = .returned (.int .i64 (cmp p q)) ∧ Below w.heap.size w w' := by
  have HC := Lib.hid (slices_Compare_any A c p A' c' q w hx hy hp hq)
  clear hx hy
  generalize cmp p q = z at *
  go_enter Try.func27, Try.ntmps27
  go_wp2_with (go_at_call 42; refine HC.out.mono ?_; rintro e w1 ⟨rfl, hb1⟩)
  go_ret
  exact ⟨rfl, hb1⟩

end Go.Proofs.Ytlaidcahkafgoaa.Path

namespace Go.Proofs.Ytlaidcahkafgoaa.Path
open Go.RowKit Go.Shelf Mem _root_.Go.Proofs.Ytlaidcahkafgoaa.Arena _root_.Go.Proofs.Ytlaidcahkafgoaa.RangeO
set_option linter.unusedVariables false

attribute [local go_sem] Oper.semAt_some

/-- A kid's place. -/
def kid (xs : List Nd) (a : Int) (j : Nat) : Int := (akids xs a).getD j 0
theorem kid_some {xs : List Nd} {a : Int} {j : Nat} (h : j < (akids xs a).length) : (akids xs a)[j]? = some (kid xs a j) := by
  unfold kid
  rw [List.getD_eq_getElem?_getD, List.getElem?_eq_getElem h]
  rfl
/-- What is told of a node's kids. -/
def krow (xs : List Nd) (a : Int) : List (Int × Int) := (List.range (akids xs a).length).map fun (j : Nat) => ((j : Int), kid xs a j)
theorem krow_len (xs : List Nd) (a : Int) : (krow xs a).length = (akids xs a).length := by simp [krow]
theorem krow_get {xs : List Nd} {a : Int} {j : Nat} (h : j < (akids xs a).length) : (krow xs a)[j]? = some ((j : Int), kid xs a j) := by
  unfold krow
  rw [List.getElem?_map, List.getElem?_range h]
  rfl
theorem krow_snoc {xs : List Nd} {a : Int} {j : Nat} (h : j < (akids xs a).length) : (krow xs a).take (j + 1) = (krow xs a).take j ++ [((j : Int), kid xs a j)] := by
  rw [List.take_add_one, krow_get h]
  rfl
theorem kid_next {xs : List Nd} {a n j : Nat} (h : T xs a n) (hj : j < (akids xs a).length) : (j = 0 → kid xs a j = (a : Int) + 1) ∧ (∀ i, j = i + 1 → aend xs (kid xs a i) = kid xs a j) ∧ 0 ≤ kid xs a j ∧ kid xs a j ≤ (xs.length : Int) := by
  obtain ⟨x, c, -, -, -, hc, -, -, hn, hk⟩ := kid_scan h
  obtain ⟨r, m, s1, s2, s3, s4, s5⟩ := hk j (by omega)
  rw [kid_some hj] at s2
  have e := Option.some.inj s2
  have := s3.pos
  refine ⟨fun h0 => ?_, fun i hi => ?_, by omega, by omega⟩
  · subst h0
    rw [scan_0] at s1
    have := Option.some.inj s1
    omega
  · subst hi
    obtain ⟨r', m', t1, t2, t3, t4, t5⟩ := hk i (by omega)
    rw [kid_some (by omega)] at t2
    have e' := Option.some.inj t2
    rw [t4] at s1
    have := Option.some.inj s1
    rw [e', T.end t3, e]
    omega

set_option maxRecDepth 100000 in
set_option maxHeartbeats 1000000 in
theorem kids1_stops (Bl Ba B : Nat) (A : Option Addr) (cap : Nat) (xs : List Nd) (a n : Nat) (w : World) (hl : xs.length ≤ 1000000) (ht : T xs a n) (hx : Nodes w B A xs) (hB : B ≤ w.heap.size) (hBl : Bl < w.heap.size) (hBa : Ba < w.heap.size)
    (hcl : w.cell? ⟨Bl, 0, none⟩ = some (.slice A xs.length cap)) (hca : w.cell? ⟨Ba, 0, none⟩ = some (.int .i64 a)) :
    SeqStopsK Fence.wide 3 Try.prog 63 #[.pointer (some ⟨Ba, 0, none⟩), .pointer (some ⟨Bl, 0, none⟩)] told (Below w.heap.size) (fun ys => ys = krow xs a) (fun pre => pre <+: krow xs a) 1000001 w := by
  intro l J Jx W hW hJ _ hY h0
  have hJ' : ∀ s W1 W2, J s W1 → Below W1.heap.size W1 W2 → J s W2 := fun s W1 W2 h hb => hJ s W1 W2 none h (grown_below hb) (fun r e => by cases e)
  have HX := Lib.hid (fun W1 (h : Below w.heap.size w W1) => (hx.keep (w' := W1) (fun k hk => h.block k (by omega))).below (B := B) (w' := W1) (Below.refl _ _))
  have HXE := Lib.hid (fun k W1 (h : Below w.heap.size w W1) => End_any A cap xs k W1 (fun i x hi => by
    obtain ⟨ad, e, h1, h2⟩ := (hx.keep (w' := W1) (fun k hk => h.block k (by omega))) i x hi
    exact ⟨ad, e, by have := h.size; omega, h2⟩) hl)
  have HL := Lib.hid (fun W1 (h : Below w.heap.size w W1) => (h.cell (p := ⟨Bl, 0, none⟩) hBl).trans hcl)
  have HA := Lib.hid (fun W1 (h : Below w.heap.size w W1) => (h.cell (p := ⟨Ba, 0, none⟩) hBa).trans hca)
  obtain ⟨x, c, hxk, har, hc, hkl, -, -, hn, -⟩ := kid_scan ht
  have hpos := ht.pos
  have HK := Lib.hid (fun j (hj : j < c) => kid_next ht (by rw [hkl]; exact hj))
  have HS := Lib.hid (fun j (hj : j < c) => krow_snoc (xs := xs) (a := (a : Int)) (j := j) (by rw [hkl]; exact hj))
  have HE := Lib.hid (show (krow xs a).take c = krow xs a from List.take_of_length_le (by rw [krow_len, hkl]; exact Nat.le_refl _))
  have HLEN := Lib.hid (show ∀ j, j ≤ c → ((krow xs a).take j).length = j from fun j hj => by rw [List.length_take, krow_len, hkl]; omega)
  have HAR := Lib.hid (fun W => Arity_any x.1 x.2 W)
  rw [show ar (x.1, x.2) = (c : Int) from har] at HAR
  obtain ⟨ad, hA, hbk, g0, g1⟩ := HX.out W hW a x hxk
  subst hA
  have hL := HL.out _ hW
  have hA0 := HA.out _ hW
  have i1 : (a : Int) < (xs.length : Int) := by omega
  have i2 : (0 : Int) ≤ (a : Int) := by omega
  have v1 : IntKind.i64.wrap ((a : Int) + 1) = (a : Int) + 1 := IntWalk.i64_in _ (by omega)
  have H0 := Lib.hid h0
  have HY := Lib.hid hY
  have HJ := Lib.hid hJ'
  have hf1 : Fence.wide.fn 15 := trivial
  have hf2 : Fence.wide.fn 46 := trivial
  clear hx hJ hJ' hcl hca hY h0 hxk har ht hn hpos
  generalize hR : krow xs a = R at *
  clear hR
  refine callsIn_of_wp Try.func63 rfl trivial ?_ rfl
  simp only [Try.ntmps63, List.size_toArray, List.length_cons, List.length_nil, Nat.reduceAdd, Nat.reduceSub, Array.replicate_succ, Array.replicate_zero, List.push_toArray, List.append_toArray, List.nil_append, List.cons_append]
  gi_wp2_with (gi_at_call 46; refine ((callsIn_wide (n := 2)).2 (HAR.out _)).mono ?_; rintro e w3 ⟨rfl, hb3⟩)
  have hB3 := hW.trans (hb3.mono hW.size)
  gi_loopw [4, 13] (fun q i wr => ∃ k : Nat, k ≤ c ∧ i = .int .i64 k ∧ q = .int .i64 (if k = 0 then (a : Int) + 1 else kid xs a (k - 1)) ∧ J (R.take k) wr ∧ Below w.heap.size w wr) (fun _ i _ => c - (intOf i).toNat)
  case atStart => exact ⟨0, by omega, rfl, rfl, HJ.out _ _ _ H0.out hb3, hB3⟩
  case round =>
    obtain ⟨k, hk, rfl, rfl, hJk, hB⟩ := hrel
    by_cases hlt : k < c
    · have j1 : (k : Int) < (c : Int) := by omega
      obtain ⟨n0, n1, n2, n3⟩ := HK.out k hlt
      have hY1 := fun W1 (h : J (R.take k) W1) => HY.out _ ((k : Int), kid xs a k) W1 h (by rw [HLEN.out k hk]; omega)
      rw [← HS.out k hlt] at hY1
      have HY1 := Lib.hid hY1
      have htold : told ((k : Int), kid xs a k) = #[.int .i64 (k : Int), .int .i64 (kid xs a k)] := rfl
      rw [htold] at HY1
      have HP := Lib.hid (show R.take (k + 1) <+: R from List.take_prefix _ _)
      have j3 : IntKind.i64.wrap ((k : Int) + 1) = (k : Int) + 1 := IntWalk.i64_in _ (by omega)
      clear hY1
      rcases k with _ | i
      · rw [if_pos rfl]
        have z0 := n0 rfl
        rw [z0, show ((0 : Nat) : Int) = 0 from rfl] at HY1
        have j2 : ¬ (0 : Int) < ((0 : Nat) : Int) := by omega
        obtain ⟨fn, tmps, assign, body, hy, hR⟩ := HY1.out _ hJk
        clear n1 n0
        gi_wp2
        refine hR.mono ?_
        rintro e W4 (⟨rfl, hJ4, hK4⟩ | ⟨rfl, hJx4⟩)
        · gi_wp2
          go_roundw
          case rel => exact ⟨1, by omega, rfl, by rw [if_neg (by omega), ← z0], hJ4, hB.trans hK4⟩
          case measure => simp [intOf]; omega
        · gi_wp2
          refine bodyPost_ret (results_none rfl _ _ _) rfl ?_
          exact ⟨⟨_, rfl⟩, .inr ⟨_, HP.out, hJx4⟩⟩
      · rw [if_neg (by omega)]
        have z1 := n1 i rfl
        have j2 : (0 : Int) < ((i + 1 : Nat) : Int) := by omega
        rw [show ((i + 1 : Nat) : Int) = (i : Int) + 1 by omega] at HY1
        have hL2 := HL.out _ hB
        have HE2 := Lib.hid (HXE.out (kid xs a i) _ hB)
        rw [z1] at HE2
        rw [show i + 1 - 1 = i from rfl]
        clear n1 n0 z1
        gi_wp2_with (gi_at_call 15; refine ((callsIn_wide (n := 2)).2 HE2.out).mono ?_; rintro e w4 ⟨rfl, hb4⟩; have hJ4 := HJ.out _ _ _ hJk hb4; have hB4 := hB.trans (hb4.mono hB.size); obtain ⟨fn, tmps, assign, body, hy, hR⟩ := HY1.out _ hJ4)
        refine hR.mono ?_
        rintro e W4 (⟨rfl, hJ4, hK4⟩ | ⟨rfl, hJx4⟩)
        · gi_wp2
          go_roundw
          case rel => exact ⟨i + 1 + 1, by omega, by go_num, by rw [if_neg (by omega)]; rfl, hJ4, hB4.trans hK4⟩
          case measure => simp [intOf]; omega
        · gi_wp2
          refine bodyPost_ret (results_none rfl _ _ _) rfl ?_
          exact ⟨⟨_, rfl⟩, .inr ⟨_, HP.out, hJx4⟩⟩
    · have hk9 : k = c := by omega
      subst hk9
      have j1 : ¬ (k : Int) < (k : Int) := by omega
      rw [HE.out] at hJk
      gi_wp2
      all_goals first
        | (go_end0; exact ⟨⟨_, rfl⟩, .inl hJk⟩)
        | (go_end0; exact ⟨⟨_, rfl⟩, .inl ⟨_, rfl, hJk⟩⟩)
        | (refine bodyPost_ret (results_none rfl _ _ _) rfl ?_; exact ⟨⟨_, rfl⟩, .inl hJk⟩)

end Go.Proofs.Ytlaidcahkafgoaa.Path

namespace Go.Proofs.Ytlaidcahkafgoaa.Path
open Go.RowKit Go.Shelf Mem _root_.Go.Proofs.Ytlaidcahkafgoaa.Arena _root_.Go.Proofs.Ytlaidcahkafgoaa.RangeO
set_option linter.unusedVariables false

attribute [local go_sem] Oper.semAt_some

/-- What the walk may turn. -/
def Turns (G base : Nat) (Φ : Nat → Prop) (k : Nat) : Prop := k = G ∨ Φ k ∨ base ≤ k

theorem kept_setCell {W : World} {G i : Nat} (v : Value) : Kept (· = G) W (W.setCell ⟨G, i, none⟩ v) := (Kept.refl (· = G) W).setCell (p := ⟨G, i, none⟩) (.inl rfl) v
/-- A row that is owned, as numbers, and where it lies. -/
theorem own_slice {w : World} {base : Nat} {A : Option Addr} {n c : Nat} {ks : List Int} (hn : ks.length = n) (h : w.ownsRow base 3 1 (.slice A n c) n (icells ks)) :
    n ≤ c ∧ (A = none → c = 0) ∧ IRow w w.heap.size A ks ∧ (∀ ad, A = some ad → base ≤ ad.block) := by
  subst hn
  obtain ⟨A', c', e, h1, h2, h3, h4⟩ := own_ints2' h
  simp only [Value.slice.injEq, true_and] at e
  obtain ⟨rfl, rfl⟩ := e
  exact ⟨h1, h2, h3, h4⟩
theorem own_form {w : World} {base : Nat} {v : Value} {ks : List Int} (h : w.ownsRow base 3 1 v ks.length (icells ks)) : ∃ A c, v = .slice A ks.length c := by
  obtain ⟨A, c, e, -⟩ := own_ints2' h
  exact ⟨A, c, e⟩

end Go.Proofs.Ytlaidcahkafgoaa.Path

namespace Go.Proofs.Ytlaidcahkafgoaa.Path
open Go.RowKit Go.Shelf Mem _root_.Go.Proofs.Ytlaidcahkafgoaa.Arena _root_.Go.Proofs.Ytlaidcahkafgoaa.RangeO
set_option linter.unusedVariables false

attribute [local go_sem] Oper.semAt_some

/-- What is told of a node: its place, and its path. -/
theorem fold_told2 (t : Array Value) (x y : Value) : Array.foldl (fun t (x : Nat × Value) => t.setIfInBounds x.1 x.2) t ((#[15, 16] : Array Nat).zip #[x, y]) = (t.setIfInBounds 15 x).setIfInBounds 16 y := by
  simp

theorem IRow.kept {S : Nat → Prop} {w w' : World} {A : Option Addr} {p : List Int} (h : IRow w w.heap.size A p) (k : Kept S w w') (hn : ∀ ad, A = some ad → ¬ S ad.block) : IRow w' w'.heap.size A p := by
  intro i x hx
  obtain ⟨ad, e, h1, h2⟩ := h i x hx
  refine ⟨ad, e, Nat.lt_of_lt_of_le h1 k.size, ?_⟩
  have hb : (ad.add i).block = ad.block := add_blockN ad i
  rw [← h2]
  exact k.cell (by rw [hb]; exact h1) (by rw [hb]; exact hn ad e)

/-- What the loop over the walk knows: b is none of the places that were told. -/
def J0 (w : World) (D : Nat) (b : Int) (a : Nat) (W : World) : Prop :=
  W.heap[D]? = some (.deferred (some [])) ∧ Blk W w.heap.size 3 #[.int .i64 b] ∧ Blk W (w.heap.size + 1) 27 #[.slice none 0 0] ∧ Blk W (w.heap.size + 1 + 1) 4 #[.bool false] ∧ Below w.heap.size w W ∧ ¬ (0 ≤ b ∧ b < a)
/-- Where it was left: b's path is told. -/
def X0 (w : World) (D base : Nat) (xs : List Nd) (b : Int) (W : World) : Prop :=
  W.heap[D]? = some (.deferred (some [])) ∧ Below w.heap.size w W ∧ ∃ p A c, Leads xs b p ∧ Blk W (w.heap.size + 1) 27 #[.slice A p.length c] ∧ Blk W (w.heap.size + 1 + 1) 4 #[.bool true] ∧ p.length ≤ c ∧ (A = none → c = 0) ∧ IRow W W.heap.size A p ∧ ∀ ad, A = some ad → base ≤ ad.block
theorem J0.keep {w : World} {D : Nat} {b : Int} {a : Nat} {X Y : World} {S : Nat → Prop} (h : J0 w D b a X) (k : Kept S X Y) (hS : ∀ i, S i → w.heap.size + 3 ≤ i ∧ i ≠ D) (hw : w.heap.size ≤ X.heap.size) : J0 w D b a Y := by
  obtain ⟨h1, h2, h3, h4, h5, h6⟩ := h
  refine ⟨(k.block _ (Array.getElem?_eq_some_iff.1 h1).1 (fun q => (hS _ q).2 rfl)).trans h1, h2.kept k (fun q => by have := (hS _ q).1; omega), h3.kept k (fun q => by have := (hS _ q).1; omega), h4.kept k (fun q => by have := (hS _ q).1; omega), h5.trans (k.to_below hw (fun i q => by have := (hS _ q).1; omega)), h6⟩
theorem X0.keep {w : World} {D base : Nat} {xs : List Nd} {b : Int} {X Y : World} {S : Nat → Prop} (h : X0 w D base xs b X) (k : Kept S X Y) (hS : ∀ i, S i → w.heap.size + 3 ≤ i ∧ i ≠ D ∧ i < base) (hw : w.heap.size ≤ X.heap.size) : X0 w D base xs b Y := by
  obtain ⟨h1, h2, p, A, c, h3, h4, h5, h6, h7, h8, h9⟩ := h
  exact ⟨(k.block _ (Array.getElem?_eq_some_iff.1 h1).1 (fun q => (hS _ q).2.1 rfl)).trans h1, h2.trans (k.to_below hw (fun i q => by have := (hS _ q).1; omega)), p, A, c, h3, h4.kept k (fun q => by have := (hS _ q).1; omega), h5.kept k (fun q => by have := (hS _ q).1; omega), h6, h7, IRow.kept h8 k (fun ad e q => by have := h9 ad e; have := (hS _ q).2.2; omega), h9⟩

end Go.Proofs.Ytlaidcahkafgoaa.Path

namespace Go.Proofs.Ytlaidcahkafgoaa.Path
open Go.RowKit Go.Shelf Mem _root_.Go.Proofs.Ytlaidcahkafgoaa.Arena _root_.Go.Proofs.Ytlaidcahkafgoaa.RangeO
set_option linter.unusedVariables false

attribute [local go_sem] Oper.semAt_some

set_option maxRecDepth 100000 in
theorem kids_any (A : Option Addr) (k cap : Nat) (a : Int) (w : World) : Calls Try.prog 48 #[.slice A k cap, .int .i64 a] w fun e w' => e = .returned (.func (.func 63) #[] #[.pointer (some ⟨w.heap.size + 1, 0, none⟩), .pointer (some ⟨w.heap.size, 0, none⟩)]) ∧ w' = (w.alloc (.cells #[.slice A k cap] 22)).alloc (.cells #[.int .i64 a] 3) := by
  go_enter Try.func48, Try.ntmps48
  go_wp2
  go_ret
  exact ⟨rfl, rfl⟩

theorem krow_last {xs : List Nd} {a x q : Int} {pre : List (Int × Int)} (h : pre ++ [(x, q)] <+: krow xs a) : ∃ j : Nat, j < (akids xs a).length ∧ x = (j : Int) ∧ q = kid xs a j := by
  obtain ⟨r, hr⟩ := h
  have h1 : (krow xs a)[pre.length]? = some (x, q) := by rw [← hr]; simp
  have hj : pre.length < (akids xs a).length := by
    have := (List.getElem?_eq_some_iff.1 h1).1
    rwa [krow_len] at this
  rw [krow_get hj] at h1
  have e := Option.some.inj h1
  rw [Prod.mk.injEq] at e
  exact ⟨pre.length, hj, e.1.symm, e.2.symm⟩
theorem krow_no {xs : List Nd} {a x : Int} (h : ∀ q ∈ krow xs a, q.1 ≠ x) : x < 0 ∨ ((akids xs a).length : Int) ≤ x := by
  rcases Int.lt_or_le x 0 with q | q
  · exact .inl q
  · obtain ⟨j, rfl⟩ := Int.eq_ofNat_of_zero_le q
    refine .inr ?_
    rcases Nat.lt_or_ge j (akids xs a).length with hj | hj
    · exact absurd rfl (h _ (List.mem_of_getElem? (krow_get hj)))
    · omega
theorem fold_told3 (t : Array Value) (x : Int × Int) : Array.foldl (fun t (x : Nat × Value) => t.setIfInBounds x.1 x.2) t ((#[22, 23] : Array Nat).zip (told x)) = (t.setIfInBounds 22 (.int .i64 x.1)).setIfInBounds 23 (.int .i64 x.2) := by
  simp [told]

set_option maxRecDepth 100000 in
set_option maxHeartbeats 4000000 in
theorem Find_whole (A : Option Addr) (cap : Nat) (xs : List Nd) (A' : Option Addr) (c' : Nat) (p : List Int) (w : World) (hx : Nodes w w.heap.size A xs) (hl : xs.length ≤ 1000000) (hy : IRow w w.heap.size A' p) (hp : p.length ≤ 1000000) (hw : Whole xs) :
    CallsIn Fence.wide 4 Try.prog 31 #[.slice A xs.length cap, .slice A' p.length c'] w fun e w' => e = .returned (.int .i64 (down xs p 0)) ∧ Below w.heap.size w w' := by
  have HE := Lib.hid (fun W hW => whole_any A cap xs W hW hl)
  rw [show (aend xs 0 == (xs.length : Int)) = true by rw [show aend xs 0 = xs.length from hw]; simp] at HE
  have HW := Lib.hid hw.t
  have HX := Lib.hid hx
  have HY := Lib.hid hy
  have hf1 : Fence.wide.fn 47 := trivial
  have hf2 : Fence.wide.fn 48 := trivial
  clear hw hx hy
  refine callsIn_of_wp_marks Try.func31 rfl trivial ?_ rfl
  simp only [Try.ntmps31, List.size_toArray, List.length_cons, List.length_nil, Nat.reduceAdd, Nat.reduceSub, Array.replicate_succ, Array.replicate_zero, List.push_toArray, List.append_toArray, List.nil_append, List.cons_append]
  gi_wp2
  refine _root_.Go.Proofs.Ytlaidcahkafgoaa.Jumps.wpIn_scope_jumps 0 (fun _ _ => False) (fun _ _ => 0) rfl ?_ (fun _ _ h => h.elim)
  gi_wp2_with (gi_at_call 47; refine ((callsIn_wide (n := 3)).2 (HE.out _ HX.out)).mono ?_; rintro e w1 ⟨rfl, hb1⟩)
  refine wpIn_label ?_
  simp only [Exit.then]
  gi_wp2
  have bR := Blk.new w1 3 #[.int .i64 0]
  have hB2 := hb1.alloc hb1.size (.cells #[.int .i64 0] 3)
  have hR := bR.lt
  have hwR := hb1.size
  generalize w1.alloc (.cells #[.int .i64 0] 3) = w2 at *
  clear HE hb1
  refine wpIn_loop (fun a' wr => ∃ (k b n : Nat) (ds : List Deferred) (u6 u7 u8 u9 u16 u17 u18 u19 u20 u21 u22 u23 u24 u25 u26 u27 u28 u29 : Value),
      a' = { tmps := #[.slice A xs.length cap, .slice A' p.length c', undef, undef, .int .i64 0, .pointer (some ⟨w1.heap.size, 0, none⟩), u6, u7, u8, u9, .slice A xs.length cap, .bool true, .bool false, .slice A' p.length c', .int .i64 p.length, .int .i64 k, u16, u17, u18, u19, u20, u21, u22, u23, u24, u25, u26, u27, u28, u29], defers := ds } ∧
      k ≤ p.length ∧ T xs b n ∧ down xs p 0 = down xs (p.drop k) b ∧ Blk wr w1.heap.size 3 #[.int .i64 b] ∧ Below w.heap.size w wr ∧ Marks w.heap.size wr ds) (fun a' _ => p.length - (intOf (a'.tmps.getD 15 undef)).toNat) ?_ ?_
  · exact ⟨0, 0, xs.length, [], _, _, _, _, _, _, _, _, _, _, _, _, _, _, _, _, _, _, rfl, by omega, HW.out, by rw [List.drop_zero]; rfl, bR, hB2, trivial⟩
  clear bR hB2 hR
  rintro a' wr ⟨k, b, n, ds, u6, u7, u8, u9, u16, u17, u18, u19, u20, u21, u22, u23, u24, u25, u26, u27, u28, u29, rfl, hk, ht, hd, bR, hB, hM⟩
  by_cases hlt : k < p.length
  · have i1 : (k : Int) < (p.length : Int) := by omega
    have i2 : (0 : Int) ≤ (k : Int) := by omega
    obtain ⟨x, hxk⟩ : ∃ x, p[k]? = some x := ⟨_, List.getElem?_eq_getElem hlt⟩
    obtain ⟨ad, hA', hb', g0⟩ := (IRow.below HY.out hB) k _ hxk
    rw [drop_at hxk] at hd
    have HD := Lib.hid hd
    have HT := Lib.hid ht
    have HB := Lib.hid hB
    have HM := Lib.hid hM
    have cR := bR.cell 0
    have hR := bR.lt
    have HR := Lib.hid bR
    subst hA'
    clear hd ht hxk hB hM bR
    gi_wp2_with (gi_at_call 48; refine ((callsIn_wide (n := 3)).2 (kids_any A xs.length cap b _)).mono ?_; rintro e w' ⟨rfl, rfl⟩)
    have hs4 : (((wr.alloc (.cells #[.int .i64 x] 3)).alloc (.cells #[.slice A xs.length cap] 22)).alloc (.cells #[.int .i64 b] 3)).heap.size = wr.heap.size + 3 := by simp
    have bN := ((Blk.new wr 3 #[.int .i64 x]).alloc (.cells #[.slice A xs.length cap] 22)).alloc (.cells #[.int .i64 b] 3)
    have bL := (Blk.new (wr.alloc (.cells #[.int .i64 x] 3)) 22 #[.slice A xs.length cap]).alloc (.cells #[.int .i64 b] 3)
    have bA := Blk.new ((wr.alloc (.cells #[.int .i64 x] 3)).alloc (.cells #[.slice A xs.length cap] 22)) 3 #[.int .i64 b]
    rw [World.size_alloc] at bL bA
    rw [World.size_alloc] at bA
    have b4 : Below wr.heap.size wr (((wr.alloc (.cells #[.int .i64 x] 3)).alloc (.cells #[.slice A xs.length cap] 22)).alloc (.cells #[.int .i64 b] 3)) := (((Below.refl _ _).alloc (Nat.le_refl _) _).alloc (by simp) _).alloc (by simp; omega) _
    have hB4 := HB.out.trans (b4.mono HB.out.size)
    have bR4 := HR.out.below b4 hR
    have hx4 := (HX.out).below hB4
    have hM4 := HM.out.keep (w' := _) (fun r hr _ => (b4.block r (Array.getElem?_eq_some_iff.1 hr).1).trans hr)
    generalize (((wr.alloc (.cells #[.int .i64 x] 3)).alloc (.cells #[.slice A xs.length cap] 22)).alloc (.cells #[.int .i64 b] 3)) = w4 at *
    have hML : ∀ d ∈ ds, ∀ r, d = { target := .collected r, args := #[] } → r < w4.heap.size := fun d hd r e => (Array.getElem?_eq_some_iff.1 (hM4.mem d hd r e)).1
    have hsz4 := hB4.size
    have hle4 : wr.heap.size + 3 ≤ w4.heap.size := by omega
    clear hs4 b4
    have hOF : ∀ (Pr : List (Int × Int) → Int → Prop), OwnFrom w4.heap.size (fun (pre : List (Int × Int)) W => ∃ v : Int, Pr pre v ∧ Blk W w1.heap.size 3 #[.int .i64 v] ∧ Blk W wr.heap.size 3 #[.int .i64 x] ∧ Below w.heap.size w W ∧ Marks w.heap.size W ds) := by
      rintro Pr s W W' row ⟨v, h1, h2, h3, h4, h5⟩ hg hr
      exact ⟨v, h1, h2.grown hg (fun e => by have := (hr _ e.symm).1; omega), h3.grown hg (fun e => by have := (hr _ e.symm).1; omega), h4.grown hg h4.size (fun i e => by have := (hr _ e).1; omega),
        h5.keep (fun r h ⟨d, hd, e⟩ => (hg.block r (Array.getElem?_eq_some_iff.1 h).1 (fun q => by have := (hr _ q.symm).1; have := hML d hd r e; omega)).trans h)⟩
    refine wpIn_rangeFunc_ownG rfl (by omega) (gf := 63) (lb := #[.pointer (some ⟨wr.heap.size + 1 + 1, 0, none⟩), .pointer (some ⟨wr.heap.size + 1, 0, none⟩)]) rfl trivial (enters_of Try.func63 (by kernel_rfl) rfl)
      (kids1_stops (wr.heap.size + 1) (wr.heap.size + 1 + 1) w.heap.size A cap xs b n w4 hl HT.out hx4 hsz4 (by omega) (by omega) (bL.cell 0) (bA.cell 0)) (fun h k => belowK_t h k) (belowK_b (Nat.le_refl _)) (Below.refl _ _) (fun _ => rfl)
      (fun (pre : List (Int × Int)) W => ∃ v : Int, (v = b ∧ ∀ q ∈ pre, q.1 ≠ x) ∧ Blk W w1.heap.size 3 #[.int .i64 v] ∧ Blk W wr.heap.size 3 #[.int .i64 x] ∧ Below w.heap.size w W ∧ Marks w.heap.size W ds)
      (fun c pre W => ∃ v : Int, (c = .exit 1 ∧ ∃ pre', pre = pre' ++ [(x, v)]) ∧ Blk W w1.heap.size 3 #[.int .i64 v] ∧ Blk W wr.heap.size 3 #[.int .i64 x] ∧ Below w.heap.size w W ∧ Marks w.heap.size W ds)
      (hOF (fun pre v => v = b ∧ ∀ q ∈ pre, q.1 ≠ x)) (fun c => hOF (fun pre v => c = .exit 1 ∧ ∃ pre', pre = pre' ++ [(x, v)]))
      ⟨b, ⟨rfl, fun p hp => by cases hp⟩, bR4, bN, hB4, hM4⟩
      (fun y => { tmps := #[.slice A xs.length cap, .slice (some ad) p.length c', undef, undef, .int .i64 0, .pointer (some ⟨w1.heap.size, 0, none⟩), u6, .pointer (some ⟨wr.heap.size, 0, none⟩), .int .i64 y.1, .int .i64 y.2, .slice A xs.length cap, .bool true, .bool false, .slice (some ad) p.length c', .int .i64 p.length, .int .i64 k, .bool true, .pointer (some (ad.add k)), .int .i64 x, .slice A xs.length cap, .int .i64 b, .func (.func 63) #[] #[.pointer (some ⟨wr.heap.size + 1 + 1, 0, none⟩), .pointer (some ⟨wr.heap.size + 1, 0, none⟩)], .int .i64 y.1, .int .i64 y.2, u24, u25, u26, u27, u28, u29], defers := [] }) ?assign ?body ?done ?stop
    case assign =>
      intro l y W K hK
      rw [fold_told3]
      simp only [List.setIfInBounds_toArray, List.set_cons_succ, List.set_cons_zero]
      gi_wp2
      exact hK
    case body =>
      rintro l pre y W ⟨v, ⟨rfl, hp⟩, bR, bN, hB, hM⟩ hlt
      have cN := bN.cell 0
      have cR := bR.cell 0
      have fR := bR.frozen 0
      by_cases h0 : y.1 = x
      · have h0' : (y.1 == x) = true := by rw [h0]; simp
        obtain ⟨y1, y2⟩ := y
        simp only at h0 h0'
        subst h0
        gi_wp2
        refine ⟨⟨by simp [World.setCell], fun k o hk ho _ => (Below.heap_setCell _ _ _ _ (fun e => by simp at e; omega)).trans ho⟩, y2, ⟨rfl, pre, rfl⟩, bR.set 0 _, bN.apart (p := ⟨w1.heap.size, 0, none⟩) (by show wr.heap.size ≠ w1.heap.size; omega) _, hB.setCell (p := ⟨w1.heap.size, 0, none⟩) hwR _, hM.keep (fun r h _ => (Below.heap_setCell _ ⟨w1.heap.size, 0, none⟩ _ _ (fun e => ?_)).trans h)⟩
        have e' : r = w1.heap.size := e
        subst e'
        unfold Blk at bR
        rw [bR] at h
        cases h
      · have h0' : (y.1 == x) = false := by rw [beq_eq_false_iff_ne]; exact h0
        gi_wp2
        refine ⟨KeepsFrom.refl _ _, Below.refl _ _, _, ⟨rfl, fun q hm => ?_⟩, bR, bN, hB, hM⟩
        rcases List.mem_append.1 hm with hm | hm
        · exact hp q hm
        · rw [List.mem_singleton] at hm; subst hm; exact h0
    case done =>
      rintro D ys W hD rfl ⟨v, ⟨rfl, hp⟩, bR, bN, hB, hM⟩ hK
      have HR' := Lib.hid (HD.out.trans (down_no (p := p.drop (k + 1)) (krow_no hp)))
      have HM' := Lib.hid (show Marks w.heap.size W ({ target := .collected D, args := #[] } :: ds) from ⟨⟨D, rfl, Nat.le_trans hsz4 hD, hK, fun d' hd r' e' => by have := hML d' hd r' e'; omega⟩, hM⟩)
      clear hp hM
      gi_wp2
      simp only [Exit.jump]
      refine leaves_marks _ _ HM'.out (fun w' hk => ?_)
      exact ⟨_, results_tmp rfl _ _ _, by rw [HR'.out]; rfl, hB.trans (hk.to_below hB.size (fun _ h => h))⟩
    case stop =>
      rintro D c pre W hD hpre ⟨v, ⟨rfl, pre', rfl⟩, bR, bN, hB, hM⟩ hK
      obtain ⟨j, hj, rfl, rfl⟩ := krow_last hpre
      have HM' := Lib.hid (show Marks w.heap.size W ({ target := .collected D, args := #[] } :: ds) from ⟨⟨D, rfl, Nat.le_trans hsz4 hD, hK, fun d' hd r' e' => by have := hML d' hd r' e'; omega⟩, hM⟩)
      obtain ⟨x', c0, -, -, -, hkl, -, -, -, hks⟩ := kid_scan HT.out
      obtain ⟨r, m, -, s2, s3, -, -⟩ := hks j (by omega)
      have s4 := kid_some hj
      rw [s2] at s4
      have s5 := Option.some.inj s4
      have HD' := Lib.hid (HD.out.trans (down_go (p := p.drop (k + 1)) s2))
      have HB' := Lib.hid (show Blk W w1.heap.size 3 #[.int .i64 ((b + 1 + r : Nat) : Int)] by rw [s5]; exact bR)
      have i3 : IntKind.i64.wrap ((k : Int) + 1) = (k : Int) + 1 := IntWalk.i64_in _ (by omega)
      clear hks s4 s5 hM hpre bR bN
      refine wpIn_exit ?_
      gi_wp2
      refine ⟨⟨k + 1, b + 1 + r, m, _, _, _, _, _, _, _, _, _, _, _, _, _, _, _, _, _, _, _, rfl, by omega, s3, HD'.out, HB'.out, hB, HM'.out⟩, ?_⟩
      show p.length - (k + 1) < p.length - k
      omega
  · have hk9 : k = p.length := by omega
    subst hk9
    rw [List.drop_length, down_nil] at hd
    have i1 : ¬ (p.length : Int) < (p.length : Int) := by omega
    have cR := bR.cell 0
    have HD := Lib.hid hd
    have HB := Lib.hid hB
    have HM := Lib.hid hM
    clear hd ht hB hM bR
    gi_wp2
    simp only [Exit.jump]
    refine leaves_marks ds _ HM.out (fun w' hk => ?_)
    exact ⟨_, results_tmp rfl _ _ _, by rw [HD.out]; rfl, HB.out.trans (hk.to_below HB.out.size (fun _ h => h))⟩

set_option maxRecDepth 100000 in
theorem Find_any (A : Option Addr) (cap : Nat) (xs : List Nd) (A' : Option Addr) (c' : Nat) (p : List Int) (w : World) (hx : Nodes w w.heap.size A xs) (hl : xs.length ≤ 1000000) (hy : IRow w w.heap.size A' p) (hp : p.length ≤ 1000000) :
    Calls Try.prog 31 #[.slice A xs.length cap, .slice A' p.length c'] w fun e w' => e = .returned (.int .i64 (pfind xs p)) ∧ Below w.heap.size w w' := by
  by_cases hw : Whole xs
  · have h : pfind xs p = down xs p 0 := if_pos hw
    rw [h]
    exact (callsIn_wide (n := 4)).1 (Find_whole A cap xs A' c' p w hx hl hy hp hw)
  · have HE := Lib.hid (whole_any A cap xs w hx hl)
    rw [show (aend xs 0 == (xs.length : Int)) = false by rw [beq_eq_false_iff_ne]; exact hw] at HE
    have HR := Lib.hid (show pfind xs p = -1 from if_neg hw)
    clear hw hx hy
    have hf1 : Fence.wide.fn 47 := trivial
    refine (callsIn_wide (n := 4)).1 ?_
    refine callsIn_of_wp_marks Try.func31 rfl trivial ?_ rfl
    simp only [Try.ntmps31, List.size_toArray, List.length_cons, List.length_nil, Nat.reduceAdd, Nat.reduceSub, Array.replicate_succ, Array.replicate_zero, List.push_toArray, List.append_toArray, List.nil_append, List.cons_append]
    gi_wp2
    refine _root_.Go.Proofs.Ytlaidcahkafgoaa.Jumps.wpIn_scope_jumps 0 (fun _ _ => False) (fun _ _ => 0) rfl ?_ (fun _ _ h => h.elim)
    gi_wp2_with (gi_at_call 47; refine ((callsIn_wide (n := 3)).2 HE.out).mono ?_; rintro e w1 ⟨rfl, hb1⟩)
    simp only [Exit.jump]
    exact ⟨_, results_tmp rfl _ _ _, by rw [HR.out]; rfl, hb1⟩

end Go.Proofs.Ytlaidcahkafgoaa.Path

namespace Go.Proofs.Ytlaidcahkafgoaa.Path
open Go.RowKit Mem _root_.Go.Proofs.Ytlaidcahkafgoaa.Arena

end Go.Proofs.Ytlaidcahkafgoaa.Path
