/-
  The reference of arenas, walked: a node's end.
-/
import Derived.Test.YteknfglfbkknaaaArenaAr
import Derived.Deep.Slices
namespace Go.Proofs.Yteknfglfbkknaaa.Arena
open Go.RowKit Mem

/-- Nodes that lie in a row, all below B. -/
def Nodes (w : World) (B : Nat) (A : Option Addr) (xs : List Nd) : Prop :=
  ∀ i x, xs[i]? = some x → ∃ ad, A = some ad ∧ ad.block < B ∧ w.cell? (ad.add (i * 2)) = some (.int .i64 x.1) ∧ w.cell? ⟨(ad.add (i * 2)).block, (ad.add (i * 2)).off + 1, none⟩ = some (.int .i64 x.2)
theorem add_blockN (a : Addr) (n : Nat) : (a.add n).block = a.block := by unfold Addr.add; split <;> rfl
theorem Nodes.keep {w w' : World} {B : Nat} {A : Option Addr} {xs : List Nd} (h : Nodes w B A xs) (hb : ∀ k, k < B → w'.heap[k]? = w.heap[k]?) : Nodes w' B A xs := by
  intro i x hx
  obtain ⟨ad, h0, h1, h3, h4⟩ := h i x hx
  have hk : ∀ q : Addr, q.block = ad.block → w'.cell? q = w.cell? q := fun q hq => by
    unfold World.cell?
    rw [hb q.block (by omega)]
  exact ⟨ad, h0, h1, (hk _ (add_blockN _ _)).trans h3, (hk ⟨(ad.add (i * 2)).block, (ad.add (i * 2)).off + 1, none⟩ (show (ad.add (i * 2)).block = ad.block from add_blockN _ _)).trans h4⟩
theorem Nodes.below {w w' : World} {B : Nat} {A : Option Addr} {xs : List Nd} (h : Nodes w B A xs) (hb : Below B w w') : Nodes w' B A xs := h.keep hb.block
theorem Nodes.at {w w' : World} {A : Option Addr} {xs : List Nd} (h : Nodes w w.heap.size A xs) (hb : Below w.heap.size w w') : Nodes w' w'.heap.size A xs := by
  intro i x hx
  obtain ⟨ad, e, hlt, r⟩ := (Nodes.below h hb) i x hx
  exact ⟨ad, e, Nat.lt_of_lt_of_le hlt hb.size, r⟩

/-- What is still to be read, from a place on. -/
def from_ (l : List Nd) (c k : Nat) : Int := match scan c (l.drop k) with | none => -1 | some n => (k : Int) + n
theorem aend_from (l : List Nd) (k : Nat) : aend l k = from_ l 1 k := by unfold aend from_; rw [if_neg (by omega), Int.toNat_natCast]; cases scan 1 (l.drop k) <;> rfl
theorem from_end {l : List Nd} {c k : Nat} (h : l.length ≤ k) : from_ l (c + 1) k = -1 := by unfold from_; rw [List.drop_eq_nil_of_le h, scan_nil]
theorem from_bad {l : List Nd} {c k : Nat} {x : Nd} (h : l[k]? = some x) (hx : ar x < 0) : from_ l (c + 1) k = -1 := by
  obtain ⟨hk, rfl⟩ := List.getElem?_eq_some_iff.1 h
  unfold from_; rw [List.drop_eq_getElem_cons hk, scan_bad hx]
theorem from_step {l : List Nd} {c k : Nat} {x : Nd} (h : l[k]? = some x) (hx : 0 ≤ ar x) : from_ l (c + 1) k = from_ l (c + (ar x).toNat) (k + 1) := by
  obtain ⟨hk, rfl⟩ := List.getElem?_eq_some_iff.1 h
  unfold from_
  rw [List.drop_eq_getElem_cons hk, scan_good hx]
  cases scan (c + (ar l[k]).toNat) (l.drop (k + 1)) with
  | none => rfl
  | some n => simp only [Option.map_some]; omega
theorem from_0 (l : List Nd) (k : Nat) : from_ l 0 k = k := by unfold from_; rw [scan_0]; simp

set_option maxRecDepth 100000 in
set_option maxHeartbeats 1000000 in
theorem ref_End_any (A : Option Addr) (cap : Nat) (xs : List Nd) (a : Int) (w : World) (hx : Nodes w w.heap.size A xs) (hl : xs.length ≤ 1000000) :
    Calls Try.prog 40 #[.slice A xs.length cap, .int .i64 a] w fun e w' => e = .returned (.int .i64 (aend xs a)) ∧ Below w.heap.size w w' := by
  have HX := Lib.hid hx
  clear hx
  by_cases h0 : a < 0
  · rw [aend_neg h0]
    go_enter Try.func40, Try.ntmps40
    go_wp2
    go_ret
    exact ⟨rfl, Below.refl _ _⟩
  obtain ⟨k0, rfl⟩ := Int.eq_ofNat_of_zero_le (show 0 ≤ a by omega)
  rw [aend_from]
  obtain ⟨E, hE⟩ : ∃ E, from_ xs 1 k0 = E := ⟨_, rfl⟩
  rw [hE]
  have HA := Lib.hid (fun t n W => ref_Arity_any t n W)
  go_enter Try.func40, Try.ntmps40
  go_wp2
  go_loopw [5, 6] (fun c i wr => ∃ (k c0 : Nat), k0 ≤ k ∧ (k ≤ xs.length ∨ k = k0) ∧ i = .int .i64 k ∧ c = .int .i64 ((c0 : Int) + 1) ∧ c0 ≤ 200 * (k - k0) ∧ from_ xs (c0 + 1) k = E ∧ Below w.heap.size w wr) (fun _ i _ => xs.length - (intOf i).toNat)
  case atStart => exact ⟨k0, 0, by omega, by omega, rfl, rfl, by omega, hE, Below.refl _ _⟩
  case round =>
    obtain ⟨k, c0, hk0, hk, rfl, rfl, hc0, hF, hB⟩ := hrel
    by_cases hlt : k < xs.length
    · obtain ⟨x, hxk⟩ : ∃ x, xs[k]? = some x := ⟨_, List.getElem?_eq_getElem hlt⟩
      obtain ⟨ad, rfl, hbk, h0', h1'⟩ := (Nodes.below HX.out hB) k x hxk
      have har := ar_le x
      by_cases hbad : ar x < 0
      · have HE := Lib.hid ((from_bad (c := c0) hxk hbad).symm.trans hF)
        have hm1 : ar x = -1 := by omega
        clear hF hxk
        go_wp2_with ((go_at_call 51; (with_reducible refine (HA.out _ _ _).mono ?_); rintro e w2 ⟨rfl, hb2⟩; rw [show ar (x.1, x.2) = -1 from hm1]))
        go_ret
        exact ⟨by rw [← HE.out]; rfl, hB.trans (hb2.mono hB.size)⟩
      · have hst := from_step (c := c0) hxk (by omega)
        rw [hF] at hst
        obtain ⟨n, hn⟩ := Int.eq_ofNat_of_zero_le (show 0 ≤ ar x by omega)
        rw [hn, Int.toNat_natCast] at hst
        rw [hn] at har
        have v1 : IntKind.i64.wrap ((c0 : Int) + 1 - 1) = (c0 : Int) := by rw [IntWalk.i64_in _ (by omega)]; omega
        have v2 : IntKind.i64.wrap ((c0 : Int) + (n : Int)) = (c0 : Int) + (n : Int) := IntWalk.i64_in _ (by omega)
        have i1 : (k : Int) < (xs.length : Int) := by omega
        have i2 : (0 : Int) ≤ (k : Int) := by omega
        have i3 : ¬ (n : Int) < 0 := by omega
        by_cases hz : c0 + n = 0
        · have HE := Lib.hid (show E = (k : Int) + 1 by rw [hst, hz, from_0]; omega)
          have hz' : ((c0 : Int) + (n : Int) == 0) = true := by rw [beq_iff_eq]; omega
          clear hF hxk hst
          go_wp2_with ((go_at_call 51; (with_reducible refine (HA.out _ _ _).mono ?_); rintro e w2 ⟨rfl, hb2⟩; rw [show ar (x.1, x.2) = (n : Int) from hn]))
          go_ret
          exact ⟨by rw [HE.out]; rfl, hB.trans (hb2.mono hB.size)⟩
        · have hz' : ((c0 : Int) + (n : Int) == 0) = false := by rw [beq_eq_false_iff_ne]; omega
          have HS := Lib.hid hst.symm
          clear hF hxk hst
          go_wp2_with ((go_at_call 51; (with_reducible refine (HA.out _ _ _).mono ?_); rintro e w2 ⟨rfl, hb2⟩; rw [show ar (x.1, x.2) = (n : Int) from hn]))
          go_roundw
          case rel =>
            obtain ⟨j, hj⟩ : ∃ j, c0 + n = j + 1 := ⟨c0 + n - 1, by omega⟩
            exact ⟨k + 1, j, by omega, by omega, by go_num, by simp only [Value.int.injEq, true_and]; omega, by omega, by rw [← hj]; exact HS.out, hB.trans (hb2.mono hB.size)⟩
          case measure => simp [intOf]; omega
    · have HE := Lib.hid ((from_end (c := c0) (by omega)).symm.trans hF)
      have hlt2 : ¬ (k : Int) < (xs.length : Int) := by omega
      have hlt3 : (xs.length : Int) ≤ (k : Int) := by omega
      go_wp2
      go_ret
      exact ⟨by rw [← HE.out]; rfl, hB⟩

end Go.Proofs.Yteknfglfbkknaaa.Arena
