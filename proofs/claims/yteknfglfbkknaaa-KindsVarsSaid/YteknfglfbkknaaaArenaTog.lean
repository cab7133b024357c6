/-
  Package arena, walked: lists put together, one behind the other.
-/
import Derived.Test.YteknfglfbkknaaaArenaSame
import Derived.Test.YteknfglfbkknaaaArenaKids
import Derived.Laws.AppendOwnNone
namespace Go.Proofs.Yteknfglfbkknaaa.Arena
open Go.RowKit Mem

def ncells (xs : List Nd) : List Value := xs.flatMap fun x => [Value.int .i64 x.1, .int .i64 x.2]
theorem ncells_append (xs ys : List Nd) : ncells (xs ++ ys) = ncells xs ++ ncells ys := by simp [ncells]
theorem ncells_len (xs : List Nd) : (ncells xs).length = xs.length * 2 := by
  induction xs with
  | nil => rfl
  | cons x l ih => rw [show ncells (x :: l) = [Value.int .i64 x.1, .int .i64 x.2] ++ ncells l from rfl, List.length_append, ih, List.length_cons]; simp; omega
theorem ncells_get : ∀ (xs : List Nd) (i : Nat) (x : Nd), xs[i]? = some x → (ncells xs)[i * 2]? = some (.int .i64 x.1) ∧ (ncells xs)[i * 2 + 1]? = some (.int .i64 x.2)
  | y :: l, 0, x, h => by simp at h; subst h; exact ⟨rfl, rfl⟩
  | y :: l, i + 1, x, h => by
    have h' : l[i]? = some x := by simpa using h
    obtain ⟨a, b⟩ := ncells_get l i x h'
    rw [show ncells (y :: l) = .int .i64 y.1 :: .int .i64 y.2 :: ncells l from rfl, show (i + 1) * 2 = i * 2 + 1 + 1 by omega, List.getElem?_cons_succ, List.getElem?_cons_succ]
    exact ⟨a, by rw [List.getElem?_cons_succ, List.getElem?_cons_succ]; exact b⟩
theorem ncells_at : ∀ (xs : List Nd) (j : Nat) (u : Value), (ncells xs)[j]? = some u → ∃ x, xs[j / 2]? = some x ∧ u = .int .i64 (if j % 2 = 0 then x.1 else x.2)
  | [], j, u, h => by simp [ncells] at h
  | y :: l, 0, u, h => by
    rw [show ncells (y :: l) = .int .i64 y.1 :: .int .i64 y.2 :: ncells l from rfl] at h
    simp at h; exact ⟨y, rfl, h.symm⟩
  | y :: l, 1, u, h => by
    rw [show ncells (y :: l) = .int .i64 y.1 :: .int .i64 y.2 :: ncells l from rfl] at h
    simp at h; exact ⟨y, rfl, h.symm⟩
  | y :: l, j + 2, u, h => by
    rw [show ncells (y :: l) = .int .i64 y.1 :: .int .i64 y.2 :: ncells l from rfl, List.getElem?_cons_succ, List.getElem?_cons_succ] at h
    obtain ⟨x, h1, h2⟩ := ncells_at l j u h
    refine ⟨x, ?_, ?_⟩
    · rw [show (j + 2) / 2 = j / 2 + 1 by omega, List.getElem?_cons_succ]; exact h1
    · rw [show (j + 2) % 2 = j % 2 by omega]; exact h2

theorem add_off (a : Addr) (j : Nat) (h : 0 < j) : a.add j = ⟨a.block, a.off + j, none⟩ := by unfold Addr.add; rw [if_neg (by omega)]
theorem add_add (a : Addr) (i j : Nat) : (a.add i).add j = a.add (i + j) := by
  unfold Addr.add
  by_cases hj : j = 0
  · subst hj; simp
  · by_cases hi : i = 0
    · subst hi; simp
    · rw [if_neg hi, if_neg hj, if_neg (by omega)]; simp; omega

/-- The cells of a row of nodes, one by one. -/
theorem Nodes.cells {w : World} {B : Nat} {ad : Addr} {xs : List Nd} (h : Nodes w B (some ad) xs) : ∀ j u, (ncells xs)[j]? = some u → w.cell? (ad.add j) = some u := by
  intro j u hu
  obtain ⟨x, h1, rfl⟩ := ncells_at xs j u hu
  obtain ⟨ad', e, -, h3, h4⟩ := h _ _ h1
  cases e
  by_cases hj : j % 2 = 0
  · rw [if_pos hj]
    rwa [show j / 2 * 2 = j by omega] at h3
  · rw [if_neg hj]
    have : ad.add j = ⟨(ad.add (j / 2 * 2)).block, (ad.add (j / 2 * 2)).off + 1, none⟩ := by
      rw [add_off ad j (by omega)]
      by_cases h0 : j / 2 * 2 = 0
      · rw [h0]; simp [Addr.add]; omega
      · rw [add_off ad _ (by omega)]; simp; omega
    rw [this]; exact h4
theorem Nodes.nil (w : World) (B : Nat) (A : Option Addr) : Nodes w B A [] := fun i x h => by simp at h
theorem Nodes.empty {w : World} {B : Nat} {xs : List Nd} (h : Nodes w B none xs) : xs = [] := by
  cases xs with
  | nil => rfl
  | cons x l => obtain ⟨ad, e, -⟩ := h 0 x rfl; cases e
/-- A part of a row. -/
theorem Nodes.part {w : World} {B : Nat} {ad : Addr} {xs : List Nd} (h : Nodes w B (some ad) xs) (k n : Nat) : Nodes w B (some (ad.add (k * 2))) ((xs.drop k).take n) := by
  intro i x hi
  have hx : xs[k + i]? = some x := by
    have hin : i < n := by
      rcases Nat.lt_or_ge i n with q | q
      · exact q
      · rw [List.getElem?_eq_none (by rw [List.length_take]; omega)] at hi; cases hi
    rwa [List.getElem?_take_of_lt hin, List.getElem?_drop] at hi
  obtain ⟨ad', e, h1, h3, h4⟩ := h _ _ hx
  cases e
  refine ⟨_, rfl, by rw [add_blockN]; exact h1, ?_, ?_⟩
  · rw [add_add, ← Nat.add_mul]; exact h3
  · rw [add_add, ← Nat.add_mul]; exact h4

theorem info_node : (Try.prog.info? 39).map (fun i => (i.zero, i.size, i.bytes)) = some (some (.agg #[.int .i64 0, .int .i64 0]), 2, 16) := by kernel_rfl

/-- A row of nodes that the call owns, as nodes. -/
theorem own_nodes {w : World} {base : Nat} {v : Value} {xs : List Nd} (h : w.ownsRow base 39 2 v xs.length (ncells xs)) :
    ∃ A c, v = .slice A xs.length c ∧ xs.length ≤ c ∧ (A = none → c = 0) ∧ Nodes w w.heap.size A xs := by
  have hc := fun g hg => h.cells (g := g) hg
  rcases h.2 with ⟨rfl, h0⟩ | ⟨g, cap, cur, rfl, -, hg, hn, -⟩
  · obtain rfl := List.length_eq_zero_iff.1 h0
    exact ⟨none, 0, rfl, Nat.le_refl _, fun _ => rfl, Nodes.nil _ _ _⟩
  · refine ⟨_, _, rfl, hn, fun e => by simp at e, fun i x hx => ⟨_, rfl, (Array.getElem?_eq_some_iff.1 hg).1, ?_, ?_⟩⟩
    · exact hc g rfl _ _ (ncells_get xs i x hx).1
    · have := hc g rfl _ _ (ncells_get xs i x hx).2
      rw [add_off _ _ (by omega)] at this
      rw [← this]
      congr 1
      rcases Nat.eq_zero_or_pos i with rfl | hi
      · simp [Addr.add]
      · rw [add_off _ _ (by omega)]; simp

/-- Nodes are put behind a row of nodes that the call owns. -/
theorem append_nodes {w : World} {ops : Array Oper} {rest : List Oper} {o : Oper} {a : Act} {Q : Exit → Act → World → Prop} (hgd : o.guard = none) (s x : Operand)
    (ho : o.op = .call { callee := .builtin .append, args := #[s, x], argTypes := #[23, 23] })
    (base : Nat) (hbase : base ≤ w.heap.size) (v : Value) (ys : List Nd) (hs : a.eval s = v) (hown : w.ownsRow base 39 2 v ys.length (ncells ys))
    (B : Nat) (A : Option Addr) (c : Nat) (xs : List Nd) (n : Nat) (hn : xs.length = n) (hx : a.eval x = .slice A n c) (hA : A = none → c = 0) (hN : Nodes w B A xs) (hlen : ys.length + xs.length ≤ 100000000)
    (h : ∀ v' w', w'.ownsRow base 39 2 v' (ys ++ xs).length (ncells (ys ++ xs)) → w.grownBy w' v.ownBlock → (v'.ownBlock = v.ownBlock ∨ v'.ownBlock = some w.heap.size) → wpList Try.prog ops Q rest (a.put o.dst v') w') :
    wpList Try.prog ops Q (o :: rest) a w := by
  subst hn
  obtain ⟨ig, hig, hz0, hz1, hz2⟩ := info_parts info_node
  cases A with
  | none =>
    obtain rfl := hN.empty
    obtain rfl := hA rfl
    refine wpList_append_own_none hgd s x 23 ho base 39 ig 2 Try.underlying23 hig v ys.length (ncells ys) hs hown hx ?_
    refine h v w ?_ ⟨rfl, rfl, rfl, Nat.le_refl _, fun _ _ _ => rfl⟩ (.inl rfl)
    rw [List.append_nil]; exact hown
  | some ad =>
    refine wpList_append_own_at _ hgd s x 23 ho base 39 ig _ 2 16 Try.underlying23 hig hz0 hz1 hz2 rfl (by decide) v ys.length (ncells ys) hs hown ad xs.length c (ncells xs) hx (ncells_len xs) hN.cells ?_ (by simp only [maxLen]; omega) (by omega) hbase ?_
    · intro u hu
      obtain ⟨j, hj⟩ := List.getElem?_of_mem hu
      obtain ⟨x, -, rfl⟩ := ncells_at xs j u hj
      rfl
    · intro v' w' hown' hg _ hat
      refine h v' w' ?_ hg hat
      rw [List.length_append, ncells_append]; exact hown'

/-- What a function that tells nodes comes to. -/
def NodesEnds (ys : List Nd) (w : World) (e : Ending) (w' : World) : Prop :=
  Below w.heap.size w w' ∧ ∃ A c, e = .returned (.slice A ys.length c) ∧ ys.length ≤ c ∧ (A = none → c = 0) ∧ Nodes w' w'.heap.size A ys

/-- A list of nodes somewhere in memory. -/
structure Sl where
  A : Option Addr
  c : Nat
  xs : List Nd
def Sl.val (l : Sl) : Value := .slice l.A l.xs.length l.c
def Sl.Ok (w : World) (B : Nat) (l : Sl) : Prop := (l.A = none → l.c = 0) ∧ Nodes w B l.A l.xs
def allOf (ls : List Sl) : List Nd := ls.flatMap Sl.xs
theorem allOf_snoc (ls : List Sl) (k : Nat) (l : Sl) (h : ls[k]? = some l) : allOf (ls.take (k + 1)) = allOf (ls.take k) ++ l.xs := by
  rw [take_snoc ls k l h]; simp [allOf]
theorem allOf_take_le (ls : List Sl) (k : Nat) : (allOf (ls.take k)).length ≤ (allOf ls).length := by
  have : allOf ls = allOf (ls.take k) ++ allOf (ls.drop k) := by
    conv => lhs; rw [← List.take_append_drop k ls]
    unfold allOf
    rw [List.flatMap_append]
  rw [this, List.length_append]; omega

set_option maxRecDepth 100000 in
set_option maxHeartbeats 1000000 in
theorem together_any (g : Nat) (ls : List Sl) (w : World) (hg : Blk w g 23 (ls.map Sl.val).toArray) (hls : ∀ l ∈ ls, l.Ok w w.heap.size) (hl : (allOf ls).length ≤ 50000000) (hn : ls.length ≤ 1000) :
    Calls Try.prog 46 #[.slice (some ⟨g, 0, none⟩) ls.length ls.length] w (NodesEnds (allOf ls) w) := by
  have HG := Lib.hid hg
  have HS := Lib.hid hls
  clear hg hls
  have hgl := HG.out.lt
  go_enter Try.func46, Try.ntmps46
  go_wp2
  go_loopw [3, 8] (fun v i wr => ∃ k : Nat, k ≤ ls.length ∧ i = .int .i64 k ∧ wr.ownsRow w.heap.size 39 2 v (allOf (ls.take k)).length (ncells (allOf (ls.take k))) ∧ Below w.heap.size w wr) (fun _ i _ => ls.length - (intOf i).toNat)
  case atStart => exact ⟨0, by omega, rfl, World.ownsRow_nil _ _ _ _, Below.refl _ _⟩
  case round =>
    obtain ⟨k, hk, rfl, hO, hB⟩ := hrel
    by_cases hlt : k < ls.length
    · obtain ⟨l, hlk⟩ : ∃ l, ls[k]? = some l := ⟨_, List.getElem?_eq_getElem hlt⟩
      have hb := (HG.out.below hB hgl)
      have hcell : wr.cell? ⟨g, k, none⟩ = some (.slice l.A l.xs.length l.c) := by
        rw [hb.cell k]; simp [hlk]; rfl
      obtain ⟨hA, hN⟩ := HS.out l (List.mem_of_getElem? hlk)
      have hN' := hN.below hB
      have hsn := allOf_snoc ls k l hlk
      have hle := allOf_take_le ls (k + 1)
      rw [hsn, List.length_append] at hle
      have j1 : (k : Int) < (ls.length : Int) := by omega
      have HSN := Lib.hid hsn
      have hrow := fun i (hi : u3.ownBlock = some i) => (hO.lt i hi).1
      clear hlk hN hsn
      go_wp2_with (at_builtin; refine append_nodes rfl _ _ rfl w.heap.size hB.size _ _ rfl hO w.heap.size l.A l.c l.xs _ rfl rfl hA hN' (by omega) ?_; intro v7 w7 hown hgr _; have hB7 : Below w.heap.size w w7 := hB.grown hgr hB.size hrow)
      go_roundw
      case rel => exact ⟨k + 1, by omega, by go_num, by rw [HSN.out]; exact hown, hB7⟩
      case measure => simp [intOf]; omega
    · have hk9 : k = ls.length := by omega
      subst hk9
      rw [List.take_length] at hO
      obtain ⟨A, c, rfl, hc, hA, hN⟩ := own_nodes hO
      have j1 : ¬ (ls.length : Int) < (ls.length : Int) := by omega
      go_wp2
      go_ret
      exact ⟨hB, A, c, rfl, hc, hA, hN⟩

end Go.Proofs.Yteknfglfbkknaaa.Arena
