/-
  The laws of layer 5 on what is written, walked.
-/
import Derived.Test.YtelljahjkfoleaaWireRefW
import Derived.Test.YtelljahjkfoleaaWireWorks
import Derived.Deep.DrawnRows
namespace Go.Proofs.Ytelljahjkfoleaa.Wire
open Go.RowKit Leb Mem

attribute [local go_sem ↓] Go.wp_at_zero Go.wp_at_succ

theorem ret_bool {p q : Bool} (h : p = q) : Ending.returned (.bool p) = .returned (.bool q) := by rw [h]

theorem Items.at {w w' : World} {A : Option Addr} {xs : List Item} (h : Items w w.heap.size A xs) (hb : Below w.heap.size w w') : Items w' w'.heap.size A xs := by
  intro i x hx
  obtain ⟨ad, e, hlt, r⟩ := (h.below hb) i x hx
  exact ⟨ad, e, Nat.lt_of_lt_of_le hlt hb.size, r⟩
theorem Items.take {w : World} {B : Nat} {A : Option Addr} {xs : List Item} (h : Items w B A xs) (k : Nat) : Items w B A (xs.take k) := by
  intro i x hx
  exact h i x (by rw [List.getElem?_take] at hx; split at hx; exact hx; cases hx)
theorem Items.ok {w : World} {B : Nat} {A : Option Addr} {xs : List Item} (h : Items w B A xs) : ∀ x ∈ xs, x.Ok := by
  intro x hx
  obtain ⟨j, hj, rfl⟩ := List.getElem_of_mem hx
  obtain ⟨_, _, _, ok, _⟩ := h j _ (List.getElem?_eq_getElem hj)
  exact ok

/-- A writer of the call's own. -/
structure Ours (w0 w : World) (a : Nat) (R : Option Nat) (l : List UInt8) : Prop where
  wr : Wr w a R l
  below : Below w0.heap.size w0 w
  lo : w0.heap.size ≤ a
  row : ∀ k, R = some k → w0.heap.size ≤ k
theorem Ours.its {w0 w : World} {a : Nat} {R : Option Nat} {l : List UInt8} (h : Ours w0 w a R l) : ∀ k, Its a R k → w0.heap.size ≤ k := by
  rintro k (rfl | q)
  · exact h.lo
  · exact h.row k q
theorem Ours.step {w0 w w' : World} {a : Nat} {R : Option Nat} {l m : List UInt8} {e : Ending} (h : Ours w0 w a R l) (hE : WrEnds a R m w e w') : e = .returned (.pointer (some ⟨a, 0, none⟩)) ∧ ∃ R', Ours w0 w' a R' m := by
  obtain ⟨he, hk, R', hw, hr⟩ := hE
  exact ⟨he, R', hw, Kept.fresh h.below hk h.below.size h.its, h.lo, fun k q => (hr k q).elim (h.row k) (Nat.le_trans h.below.size)⟩
theorem Ours.more {w0 w w' : World} {a : Nat} {R : Option Nat} {l : List UInt8} (h : Ours w0 w a R l) (hb : Below w.heap.size w w') : Ours w0 w' a R l :=
  ⟨h.wr.below hb, h.below.trans (hb.mono h.below.size), h.lo, h.row⟩

set_option maxRecDepth 100000 in
set_option maxHeartbeats 1000000 in
theorem wireWrites_walk (A : Option Addr) (cap : Nat) (xs : List Item) (hlen : xs.length ≤ maxLen) (hcap : xs.length ≤ cap) (w : World) (hx : Items w w.heap.size A xs) :
    Calls Try.prog 4 #[.slice A xs.length cap] w fun e w' => e = .returned (.bool true) ∧ Below w.heap.size w w' := by
  have HF := Lib.hid (fun W (hb : Below w.heap.size w W) => few_any A cap xs W (hx.at hb) hlen)
  unfold maxLen at hlen
  have hok := hx.ok
  have HX := Lib.hid hx
  clear hx
  by_cases hf : fewB xs = true
  · rw [hf] at HF
    have h60 : xs.length ≤ 60 := by unfold fewB at hf; exact (of_decide_eq_true hf).1
    have hsz := few_size xs hf
    have hbl := few_len xs hok hf
    have HS := Lib.hid hsz
    have HL := Lib.hid hbl
    have HO := Lib.hid hok
    clear hsz hbl hok hf
    go_enter Try.func4, Try.ntmps4
    go_wp2_with (go_at_call 8; refine (works_any _).mono ?_; rintro e w1 ⟨rfl, hb1⟩)
    refine (HF.out _ hb1).mono ?_
    rintro e w2 ⟨rfl, rfl⟩
    go_wp2_with fail
    refine (New_any _).mono ?_
    rintro e w3 ⟨rfl, hW3, hb3⟩
    have h3 : Ours w w3 w1.heap.size none [] := ⟨hW3, hb1.trans (hb3.mono hb1.size), hb1.size, fun k h => by cases h⟩
    clear hW3 hb3 HF hb1
    obtain ⟨a, ha⟩ : ∃ a, w1.heap.size = a := ⟨_, rfl⟩
    rw [ha] at h3 ⊢
    clear ha
    go_wp2_with fail
    go_loopw [4, 5] (fun p i wr => ∃ k : Nat, k ≤ xs.length ∧ i = .int .i64 k ∧ p = .pointer (some ⟨a, 0, none⟩) ∧ ∃ R, Ours w wr a R (bytesOf (xs.take k))) (fun _ i _ => xs.length - (intOf i).toNat)
    case atStart => exact ⟨0, by omega, rfl, rfl, none, h3⟩
    case round =>
      clear h3
      obtain ⟨k, hk, rfl, rfl, R, hO⟩ := hrel
      have hl := HL.out k
      by_cases hlt : k < xs.length
      · obtain ⟨x, hxk⟩ : ∃ x, xs[k]? = some x := ⟨_, List.getElem?_eq_getElem hlt⟩
        obtain ⟨ad, rfl, hb, ok, h0, h1, h2, h3⟩ := (HX.out.below hO.below) k x hxk
        have HN := Lib.hid (bytesOf_take xs k x hxk)
        have hs1 := HS.out k x hxk
        have hlt' : (xs.take (k + 1)).length = k + 1 := by rw [List.length_take]; omega
        have hwr := fun W (hb : Below w.heap.size w W) => ref_Write_any (some ad) cap (xs.take (k + 1)) W ((HX.out.at hb).take _) (fun x h => HO.out x (List.mem_of_mem_take h)) (fun i => by rw [List.take_take]; exact HL.out _) (fun i x h => HS.out i x (by rw [List.getElem?_take] at h; split at h; exact h; cases h)) (by rw [hlt']; omega)
        rw [hlt'] at hwr
        have HW := Lib.hid hwr
        clear hxk hwr hlt'
        have HP := Lib.hid (put_any a R (bytesOf (xs.take k)) x wr hO.wr ok (by omega))
        clear ok
        have b1 : (0 : Int) ≤ (k : Int) + 1 := by omega
        have b2 : (k : Int) + 1 ≤ (cap : Int) := by omega
        have b3 : ((k : Int) + 1).toNat = k + 1 := by omega
        have b4 : IntKind.i64.wrap ((k : Int) + 1) = (k : Int) + 1 := IntWalk.i64_in _ (by omega)
        go_wp2_with (go_at_call 14; refine (HP.out).mono ?_; intro e w4 hq; obtain ⟨rfl, R2, hO2⟩ := hO.step hq; clear hq)
        rw [← HN.out] at hO2
        have hO3 : Ours w w4.drew a R2 (bytesOf (xs.take (k + 1))) := ⟨hO2.wr, hO2.below.drew, hO2.lo, hO2.row⟩
        go_region_held3 (fun _ => True) (trivial) (first
          | (go_at_call 15; (with_reducible refine (Bytes_any _ _ _ _ hO3.wr).mono ?_); rintro e w5 ⟨rfl, rfl⟩)
          | (go_at_call 16; (with_reducible refine (HW.out _ hO3.below).mono ?_); rintro e w6 ⟨rfl, hb6⟩; have hO3 := hO3.more hb6))
        go_wp2_with fail
        go_roundw
        case rel => exact ⟨k + 1, by omega, by go_num, rfl, R2, hO3⟩
        case measure => simp [intOf]; omega
      · have hk9 : k = xs.length := by omega
        subst hk9
        go_wp2
        go_ret
        exact ⟨rfl, hO.below⟩
  · have hf2 : fewB xs = false := by simpa using hf
    rw [hf2] at HF
    clear hf hf2
    go_enter Try.func4, Try.ntmps4
    go_wp2_with (go_at_call 8; refine (works_any _).mono ?_; rintro e w1 ⟨rfl, hb1⟩)
    refine (HF.out _ hb1).mono ?_
    rintro e w2 ⟨rfl, rfl⟩
    go_wp2_with fail
    go_ret
    exact ⟨rfl, hb1⟩

end Go.Proofs.Ytelljahjkfoleaa.Wire
