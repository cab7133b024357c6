/-
  Package arena, walked: a part, and what is replaced.
-/
import Derived.Test.YteknfglfbkknaaaArenaTog
import Derived.Test.YteknfglfbkknaaaArenaPEnd
import Derived.Deep.RegionHeld3
import Derived.Deep.DrawnRows
namespace Go.Proofs.Yteknfglfbkknaaa.Arena
open Go.RowKit Mem
attribute [local go_sem ↓] Go.wp_at_zero Go.wp_at_succ

theorem NodesEnds.from {ys : List Nd} {w w1 w2 : World} {e : Ending} (h : NodesEnds ys w1 e w2) (hb : Below w.heap.size w w1) : Below w.heap.size w w2 ∧ ∃ A c, e = .returned (.slice A ys.length c) ∧ ys.length ≤ c ∧ (A = none → c = 0) ∧ Nodes w2 w2.heap.size A ys :=
  ⟨hb.trans (h.1.mono hb.size), h.2⟩
/-- One list, put together: itself, anew. -/
theorem together_one (A : Option Addr) (c : Nat) (xs : List Nd) (n : Nat) (hn : xs.length = n) (w : World) (hA : A = none → c = 0) (hx : Nodes w w.heap.size A xs) (hl : xs.length ≤ 1000000) :
    Calls Try.prog 46 #[.slice (some ⟨w.heap.size, 0, none⟩) 1 1] (w.alloc (.cells #[.slice A n c] 23)) (NodesEnds xs w) := by
  subst hn
  have hb : Below w.heap.size w (w.alloc (.cells #[.slice A xs.length c] 23)) := (Below.refl _ _).alloc (Nat.le_refl _) _
  have h := together_any w.heap.size [⟨A, c, xs⟩] _ (Blk.new w 23 #[.slice A xs.length c]) (fun l hl => by
    rw [List.mem_singleton] at hl; subst hl; exact ⟨hA, hx.at hb⟩) (by simp [allOf]; omega) (by simp)
  rw [show allOf [⟨A, c, xs⟩] = xs by simp [allOf]] at h
  exact h.mono (fun e w' h => h.from hb)

set_option linter.unusedVariables false
set_option maxRecDepth 100000 in
set_option maxHeartbeats 1000000 in
theorem Part_any (A : Option Addr) (cap : Nat) (xs : List Nd) (a : Int) (w : World) (hx : Nodes w w.heap.size A xs) (hA : A = none → cap = 0) (hcap : xs.length ≤ cap) (hl : xs.length ≤ 1000000) :
    Calls Try.prog 22 #[.slice A xs.length cap, .int .i64 a] w (NodesEnds (apart xs a) w) := by
  have HE := Lib.hid (fun W hW => End_any A cap xs a W hW hl)
  have HX := Lib.hid hx
  clear hx
  rcases aend_cases xs a with he | ⟨k, n, rfl, hs, he, hn1, hn2⟩
  · have hp : apart xs a = [] := by unfold apart; rw [if_pos (by omega)]
    rw [hp]
    rw [he] at HE
    clear he hp
    go_enter Try.func22, Try.ntmps22
    go_wp2_with (go_at_call 23; refine (HE.out _ HX.out).mono ?_; rintro e w1 ⟨rfl, hb1⟩)
    go_ret
    exact ⟨hb1, none, 0, rfl, Nat.le_refl _, fun _ => rfl, Nodes.nil _ _ _⟩
  · have hp : apart xs (k : Int) = (xs.drop k).take n := by
      unfold apart
      rw [if_neg (by rw [he]; omega), he, Int.toNat_natCast, show ((k : Int) + n).toNat - k = n by omega]
    rw [hp]
    rw [he] at HE
    have hne : ((k : Int) + (n : Int) == -1) = false := by rw [beq_eq_false_iff_ne]; omega
    obtain ⟨x, hxk⟩ : ∃ x, xs[k]? = some x := ⟨_, List.getElem?_eq_getElem (by omega)⟩
    obtain ⟨ad, rfl, -⟩ := HX.out k x hxk
    have i1 : (0 : Int) ≤ (k : Int) := by omega
    have i2 : (k : Int) ≤ (k : Int) + (n : Int) := by omega
    have i3 : (k : Int) + (n : Int) ≤ (cap : Int) := by omega
    have hlen : ((xs.drop k).take n).length = n := by rw [List.length_take, List.length_drop]; omega
    have HP := Lib.hid (fun W (hW : Nodes W W.heap.size (some ad) xs) => together_one (some (ad.add (k * 2))) (cap - k) ((xs.drop k).take n) n hlen W (fun e => by simp at e) (hW.part k n) (by omega))
    clear he hp hxk
    go_enter Try.func22, Try.ntmps22
    go_wp2_with (first
      | (go_at_call 23; refine (HE.out _ HX.out).mono ?_; rintro e w1 ⟨rfl, hb1⟩)
      | (go_at_call 46; refine (HP.out _ (HX.out.at hb1)).mono ?_; rintro e w2 h2; obtain ⟨hb2, A2, c2, rfl, hc2, hA2, hN2⟩ := h2.from hb1))
    go_ret
    refine ⟨hb2, A2, c2, by rw [hlen]; rfl, hc2, hA2, hN2⟩

theorem Nodes.front {w : World} {B : Nat} {ad : Addr} {xs : List Nd} (h : Nodes w B (some ad) xs) (k : Nat) : Nodes w B (some ad) (xs.take k) := by
  have := h.part 0 k
  simpa [Addr.add] using this
theorem Nodes.back {w : World} {B : Nat} {ad : Addr} {xs : List Nd} (h : Nodes w B (some ad) xs) (k cap : Nat) (hc : xs.length ≤ cap) : Nodes w B (if cap = k then some ad else some (ad.add (k * 2))) (xs.drop k) := by
  by_cases hk : cap = k
  · rw [List.drop_eq_nil_of_le (by omega)]; exact Nodes.nil _ _ _
  · rw [if_neg hk]
    have := h.part k (xs.length - k)
    rwa [List.take_of_length_le (by rw [List.length_drop]; omega)] at this
/-- Three lists, put together. -/
theorem together_three (A1 : Option Addr) (c1 : Nat) (xs1 : List Nd) (n1 : Nat) (h1 : xs1.length = n1) (A2 : Option Addr) (c2 : Nat) (xs2 : List Nd) (A3 : Option Addr) (c3 : Nat) (xs3 : List Nd) (n3 : Nat) (h3 : xs3.length = n3) (w : World)
    (hA1 : A1 = none → c1 = 0) (hx1 : Nodes w w.heap.size A1 xs1) (hA2 : A2 = none → c2 = 0) (hx2 : Nodes w w.heap.size A2 xs2) (hA3 : A3 = none → c3 = 0) (hx3 : Nodes w w.heap.size A3 xs3) (hl1 : xs1.length ≤ 1000000) (hl2 : xs2.length ≤ 1000000) (hl3 : xs3.length ≤ 1000000) :
    Calls Try.prog 46 #[.slice (some ⟨w.heap.size, 0, none⟩) 3 3] (w.alloc (.cells #[.slice A1 n1 c1, .slice A2 xs2.length c2, .slice A3 n3 c3] 23)).drew (NodesEnds (xs1 ++ (xs2 ++ xs3)) w) := by
  subst h1 h3
  have hb : Below w.heap.size w (w.alloc (.cells #[.slice A1 xs1.length c1, .slice A2 xs2.length c2, .slice A3 xs3.length c3] 23)).drew := ((Below.refl _ _).alloc (Nat.le_refl _) _).drew
  have h := together_any w.heap.size [⟨A1, c1, xs1⟩, ⟨A2, c2, xs2⟩, ⟨A3, c3, xs3⟩] _ (Blk.drew (Blk.new w 23 #[.slice A1 xs1.length c1, .slice A2 xs2.length c2, .slice A3 xs3.length c3])) (fun l hl => by
    simp only [List.mem_cons, List.not_mem_nil, or_false] at hl
    rcases hl with rfl | rfl | rfl
    · exact ⟨hA1, hx1.at hb⟩
    · exact ⟨hA2, hx2.at hb⟩
    · exact ⟨hA3, hx3.at hb⟩) (by simp [allOf]; omega) (by simp)
  rw [show allOf [⟨A1, c1, xs1⟩, ⟨A2, c2, xs2⟩, ⟨A3, c3, xs3⟩] = xs1 ++ (xs2 ++ xs3) by simp [allOf]] at h
  exact h.mono (fun e w' h => h.from hb)

set_option maxRecDepth 100000 in
set_option maxHeartbeats 2000000 in
theorem Replace_any (A : Option Addr) (cap : Nat) (xs : List Nd) (a : Int) (A' : Option Addr) (cap' : Nat) (ms : List Nd) (w : World) (hx : Nodes w w.heap.size A xs) (hA : A = none → cap = 0) (hcap : xs.length ≤ cap) (hl : xs.length ≤ 1000000)
    (hm : Nodes w w.heap.size A' ms) (hA' : A' = none → cap' = 0) (hl' : ms.length ≤ 1000000) :
    Calls Try.prog 24 #[.slice A xs.length cap, .int .i64 a, .slice A' ms.length cap'] w (NodesEnds (arep xs a ms) w) := by
  have HE := Lib.hid (fun W hW => End_any A cap xs a W hW hl)
  have HX := Lib.hid hx
  have HM := Lib.hid hm
  clear hx hm
  rcases aend_cases xs a with he | ⟨k, n, rfl, hs, he, hn1, hn2⟩
  · have hp : arep xs a ms = xs := by unfold arep; rw [if_pos (by omega)]
    rw [hp]
    rw [he] at HE
    have HP := Lib.hid (fun W (hW : Nodes W W.heap.size A xs) => together_one A cap xs xs.length rfl W hA hW hl)
    clear he hp
    go_enter Try.func24, Try.ntmps24
    go_wp2_with (first
      | (go_at_call 23; refine (HE.out _ HX.out).mono ?_; rintro e w1 ⟨rfl, hb1⟩)
      | (go_at_call 46; refine (HP.out _ (HX.out.at hb1)).mono ?_; rintro e w2 h2; obtain ⟨hb2, A2, c2, rfl, hc2, hA2, hN2⟩ := h2.from hb1))
    go_ret
    exact ⟨hb2, A2, c2, rfl, hc2, hA2, hN2⟩
  · have hp := rep_is hs ms
    rw [hp]
    rw [he] at HE
    have hne : ((k : Int) + (n : Int) == -1) = false := by rw [beq_eq_false_iff_ne]; omega
    obtain ⟨x, hxk⟩ : ∃ x, xs[k]? = some x := ⟨_, List.getElem?_eq_getElem (by omega)⟩
    obtain ⟨ad, rfl, -⟩ := HX.out k x hxk
    obtain ⟨to, hto⟩ : ∃ to, k + n = to := ⟨_, rfl⟩
    have hto2 : (k : Int) + (n : Int) = (to : Int) := by omega
    rw [hto2] at hne HE
    rw [hto]
    have i1 : (0 : Int) ≤ (k : Int) := by omega
    have i2 : (k : Int) ≤ (cap : Int) := by omega
    have i3 : (0 : Int) ≤ (to : Int) := by omega
    have i4 : (to : Int) ≤ (xs.length : Int) := by omega
    have l1 : (xs.take k).length = k := by rw [List.length_take]; omega
    have l2 : (xs.drop to).length = xs.length - to := by rw [List.length_drop]
    have HP := Lib.hid (fun W (hW : Nodes W W.heap.size (some ad) xs) (hW' : Nodes W W.heap.size A' ms) => together_three (some ad) cap (xs.take k) k l1 A' cap' ms (if cap = to then some ad else some (ad.add (to * 2))) (cap - to) (xs.drop to) (xs.length - to) l2 W (fun e => by simp at e) (hW.front k) hA' hW' (fun e => by split at e <;> simp at e) (hW.back to cap hcap) (by omega) hl' (by omega))
    generalize xs.take k ++ (ms ++ xs.drop to) = R at *
    clear he hp hxk hs l1 l2 hto2 hto
    by_cases hct : cap = to
    · subst hct
      rw [if_pos rfl, show xs.length - cap = 0 by omega, Nat.sub_self] at HP
      go_enter Try.func24, Try.ntmps24
      go_wp2_with (first
        | (go_at_call 23; refine (HE.out _ HX.out).mono ?_; rintro e w1 ⟨rfl, hb1⟩))
      go_region_held3 (fun _ => True) (trivial) (first
        | (go_at_call 46; with_reducible refine (HP.out _ (HX.out.at hb1) (HM.out.at hb1)).mono ?_; rintro e w2 h2; obtain ⟨hb2, A2, c2, rfl, hc2, hA2, hN2⟩ := h2.from hb1))
      go_wp2
      go_ret
      exact ⟨hb2, A2, c2, rfl, hc2, hA2, hN2⟩
    · rw [if_neg hct] at HP
      go_enter Try.func24, Try.ntmps24
      go_wp2_with (first
        | (go_at_call 23; refine (HE.out _ HX.out).mono ?_; rintro e w1 ⟨rfl, hb1⟩))
      go_region_held3 (fun _ => True) (trivial) (first
        | (go_at_call 46; with_reducible refine (HP.out _ (HX.out.at hb1) (HM.out.at hb1)).mono ?_; rintro e w2 h2; obtain ⟨hb2, A2, c2, rfl, hc2, hA2, hN2⟩ := h2.from hb1))
      go_wp2
      go_ret
      exact ⟨hb2, A2, c2, rfl, hc2, hA2, hN2⟩

end Go.Proofs.Yteknfglfbkknaaa.Arena
