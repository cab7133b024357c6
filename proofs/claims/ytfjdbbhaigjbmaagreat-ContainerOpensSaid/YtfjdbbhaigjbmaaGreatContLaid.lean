/-
  Package container, walked: where each section's frame begins, told to a loop's body.
-/
import Derived.Test.YtfjdbbhaigjbmaaGreatContSmall
import Derived.Test.YtfjdbbhaigjbmaaGreatRangeP
import Derived.RangeFuncNested
import Derived.RangeFuncCalls
import Derived.RangeFuncLeaves
import Derived.Shelf.Abstract
import Derived.Shelf.RegionOpen
import Derived.OwnWalkIn
import Derived.TacticsInMore
import Derived.LoopNIn
import Derived.LoopIn
import Derived.Laws.EntriesVeiled
namespace Go.Proofs.YtfjdbbhaigjbmaaGreat.Cont
open Go.RowKit Go.Shelf Leb Mem _root_.Go.Proofs.YtfjdbbhaigjbmaaGreat.Frame _root_.Go.Proofs.YtfjdbbhaigjbmaaGreat.RangeP

attribute [local go_sem] Oper.semAt_some

/-- Sections, each with the place of its frame. -/
def rowsA : Nat → List Sect → List (Int × Sect)
  | _, [] => []
  | a, x :: l => ((a : Int), x) :: rowsA (a + size (x.t, x.d.data.toList)) l
theorem rowsA_get : ∀ (a : Nat) (xs : List Sect) (k : Nat) (x : Sect), xs[k]? = some x → (rowsA a xs)[k]? = some (((a + (body (secs (xs.take k))).length : Nat) : Int), x)
  | a, y :: l, 0, x, h => by simp at h; subst h; simp [rowsA, secs, body]
  | a, y :: l, k + 1, x, h => by
    have h' : l[k]? = some x := by simpa using h
    have := rowsA_get (a + size (y.t, y.d.data.toList)) l k x h'
    rw [rowsA, List.getElem?_cons_succ, this, List.take_succ_cons]
    congr 3
    rw [show secs (y :: l.take k) = (y.t, y.d.data.toList) :: secs (l.take k) from rfl, body, List.length_append]
    show a + (fput _ _).length + _ = _
    omega
theorem rowsA_len : ∀ (a : Nat) (xs : List Sect), (rowsA a xs).length = xs.length
  | _, [] => rfl
  | a, x :: l => by rw [rowsA, List.length_cons, rowsA_len, List.length_cons]
theorem rowsA_step {a : Nat} {xs : List Sect} {k : Nat} {x : Sect} (h : xs[k]? = some x) : (rowsA a xs).take (k + 1) = (rowsA a xs).take k ++ [(((a + (body (secs (xs.take k))).length : Nat) : Int), x)] := by
  have h1 := rowsA_get a xs k x h
  obtain ⟨hk, h2⟩ := List.getElem?_eq_some_iff.1 h1
  rw [List.take_succ_eq_append_getElem hk, h2]
/-- What has come so far is a part of them. -/
def Came (xs : List Sect) (pre : List (Int × Sect)) : Prop := pre <+: rowsA 7 xs
theorem Came.last {xs : List Sect} {pre : List (Int × Sect)} {x : Int × Sect} (h : Came xs (pre ++ [x])) : xs[pre.length]? = some x.2 ∧ x.1 = ((7 + (body (secs (xs.take pre.length))).length : Nat) : Int) := by
  have hl := h.length_le
  rw [List.length_append, rowsA_len, List.length_singleton] at hl
  obtain ⟨y, hy⟩ : ∃ y, xs[pre.length]? = some y := ⟨_, List.getElem?_eq_getElem (by omega)⟩
  have h1 := rowsA_get 7 xs pre.length y hy
  obtain ⟨t, ht⟩ := h
  rw [← ht, List.append_assoc, List.getElem?_append_right (Nat.le_refl _), Nat.sub_self] at h1
  simp only [List.singleton_append, List.getElem?_cons_zero, Option.some.injEq] at h1
  rw [h1]
  exact ⟨hy, rfl⟩

/-- A place and a section, handed to a loop's body. -/
def told2 (x : Int × Sect) : Array Value := #[.int .i64 x.1, .agg #[.int .i64 x.2.t, .string x.2.d]]

set_option maxRecDepth 100000 in
set_option maxHeartbeats 1000000 in
theorem laid1_tells (Bn n₀ : Nat) (A : Option Addr) (cap : Nat) (xs : List Sect) (w : World) (hl : Lim xs) (hn : n₀ ≤ w.heap.size) (hBn : Bn < w.heap.size)
    (hc : w.cell? ⟨Bn, 0, none⟩ = some (.slice A xs.length cap)) (hx : Sects w n₀ A xs) :
    Tells Fence.wide 3 Tryz.prog 41 #[.pointer (some ⟨Bn, 0, none⟩)] told2 (fun ys => ys = rowsA 7 xs) (Came xs) (fun k => k < n₀) w := by
  intro l J Jp W Φ₀ hW hJs hJ hY h0 hO
  obtain ⟨hl1, hl2⟩ := id hl
  have hc' := (hW.cell (p := ⟨Bn, 0, none⟩) hBn).trans hc
  have HX := Lib.hid ((Sects.below (B := n₀) hx (hW.mono hn)))
  clear hx hc
  refine callsIn_of_wp Tryz.func41 rfl trivial ?_ rfl
  simp only [Tryz.ntmps41, List.size_toArray, List.length_cons, List.length_nil, Nat.reduceAdd, Nat.reduceSub, Array.replicate_succ, Array.replicate_zero, List.push_toArray, List.append_toArray, List.nil_append, List.cons_append]
  gi_wp2
  gi_loopw [3, 8] (fun a i wr => ∃ (k : Nat) (Φ : Nat → Prop), k ≤ xs.length ∧ i = .int .i64 k ∧ a = .int .i64 ((7 + (body (secs (xs.take k))).length : Nat) : Int) ∧ J ((rowsA 7 xs).take k) Φ wr ∧ (∀ j, Φ j → ¬ j < n₀) ∧ Below n₀ W wr) (fun _ i _ => xs.length - (intOf i).toNat)
  case atStart => exact ⟨0, Φ₀, by omega, rfl, rfl, h0, hO, Below.refl _ _⟩
  case round =>
    obtain ⟨k, Φ, hk, rfl, rfl, hJk, hΦ, hB⟩ := hrel
    have hn' : n₀ ≤ wr.heap.size := Nat.le_trans hn (Nat.le_trans hW.size hB.size)
    by_cases hlt : k < xs.length
    · obtain ⟨x, hxk⟩ : ∃ x, xs[k]? = some x := ⟨_, List.getElem?_eq_getElem hlt⟩
      obtain ⟨ad, rfl, hbk, hs1, g0, g1⟩ := (Sects.below HX.out hB) k x hxk
      have hbn := body_snoc (secs (xs.take k)) (x.t, x.d.data.toList)
      rw [← secs_take xs k x hxk] at hbn
      have hst := rowsA_step (a := 7) hxk
      have hbl := body_lim hl k
      have hxs := total_mem hxk
      have hzl := size_le (x := (x.t, x.d.data.toList)) (by rw [len_of]; omega)
      simp only at hzl hbn
      rw [len_of] at hzl
      have HZ := Lib.hid (fun W => p_size_any x.t x.d (by omega) W)
      have hG : Came xs ((rowsA 7 xs).take k ++ [(((7 + (body (secs (xs.take k))).length : Nat) : Int), x)]) := by rw [← hst]; exact List.take_prefix _ _
      have hYk := fun W1 (h : J ((rowsA 7 xs).take k) Φ W1) => hY ((rowsA 7 xs).take k) _ Φ W1 h hG
      have HG := Lib.hid hG
      rw [← hst] at hYk
      generalize size (x.t, x.d.data.toList) = z at *
      generalize (body (secs (xs.take k))).length = q at *
      have hw4 : IntKind.i64.wrap (((7 + q : Nat) : Int) + (z : Int)) = ((7 + q : Nat) : Int) + (z : Int) := IntWalk.i64_in _ (by omega)
      have HQ := Lib.hid (show ((7 + q : Nat) : Int) + (z : Int) = ((7 + (body (secs (xs.take (k + 1)))).length : Nat) : Int) by rw [hbn]; omega)
      have HT := Lib.hid hst
      generalize ((7 + q : Nat) : Int) = Q at *
      clear hbn hst hbl hxs hzl hG hY
      have hJa := hJ _ _ _ _ hJk ((Below.refl wr.heap.size wr).alloc (Nat.le_refl _) (.cells #[.int .i64 x.t, .string x.d] 34))
      have bX := Blk.new wr 34 #[.int .i64 x.t, .string x.d]
      have hBa := hB.alloc hn' (.cells #[.int .i64 x.t, .string x.d] 34)
      have hnX : ¬ Φ wr.heap.size := fun h => Nat.lt_irrefl _ (hJs _ _ _ hJk _ h)
      obtain ⟨fn, tmps, assign, body, hy, hR⟩ := hYk _ hJa
      clear hYk
      change Sem.run Tryz.prog (Instr.yield l #[.int .i64 Q, .agg #[.int .i64 x.t, .string x.d]]) _ = _ at hy
      gi_wp2
      refine hR.mono ?_
      rintro e W3 (⟨rfl, Φ2, hJ3, hK3, hs3⟩ | ⟨ch, rfl, hJ3⟩)
      · have bX3 := bX.kept hK3 hnX
        have hB3 := hBa.trans (hK3.to_below (B := n₀) (by simp; omega) (fun k h => by have := hΦ k h; omega))
        have hΦ2 : ∀ j, Φ2 j → ¬ j < n₀ := fun j h => by
          rcases hs3 j h with h | h
          · exact hΦ j h
          · simp at h; omega
        obtain ⟨c0, c1⟩ := bX3.two
        have hlt3 : n₀ ≤ W3.heap.size := by have := bX3.lt; omega
        clear hR hy bX bX3 hBa hJa hnX hs3 hK3
        gi_wp2_with fail
        refine ⟨trivial, ?_⟩
        refine ((callsIn_wide (n := 2)).2 (HZ.out _)).mono ?_
        rintro e W4 ⟨rfl, hb4⟩
        gi_wp2
        go_roundw
        case rel => exact ⟨k + 1, Φ2, by omega, by go_num, by rw [← HQ.out], hJ _ _ _ _ hJ3 hb4, hΦ2, hB3.trans (hb4.mono hlt3)⟩
        case measure => simp [intOf]; omega
      · gi_wp2
        refine ⟨rfl, .inr ⟨ch, _, rfl, ?_, hJ3⟩⟩
        rw [HT.out]
        exact HG.out
    · have hk9 : k = xs.length := by omega
      subst hk9
      have HE := Lib.hid (show (rowsA 7 xs).take xs.length = rowsA 7 xs by rw [List.take_of_length_le (by rw [rowsA_len]; omega)])
      gi_wp2
      go_end0
      exact .inl ⟨_, _, Φ, rfl, rfl, by rw [← HE.out]; exact hJk⟩

set_option maxHeartbeats 1000000 in
theorem laid_any (A : Option Addr) (k cap : Nat) (w : World) : Calls Tryz.prog 24 #[.slice A k cap] w fun e w' => e = .returned (.func (.func 41) #[] #[.pointer (some ⟨w.heap.size, 0, none⟩)]) ∧ w' = w.alloc (.cells #[.slice A k cap] 22) := by
  go_enter Tryz.func24, Tryz.ntmps24
  go_wp2
  go_ret
  exact ⟨rfl, rfl⟩

end Go.Proofs.YtfjdbbhaigjbmaaGreat.Cont
