/-
  The things that layer 5's statements write, in memory; and what they are as bytes.
-/
import Derived.Test.YtelljahjkfoleaaWireWrite
import Derived.TacticsInMore
import Derived.Tactics2
namespace Go.Proofs.Ytelljahjkfoleaa.Wire
open Go.RowKit Leb Mem

/-- A thing to write: its kind, its number with a sign, its number without one, its text. -/
structure Item where
  k : Int
  n : Int
  u : Int
  s : ByteArray

/-- What a thing of Go's holds at most. -/
structure Item.Ok (x : Item) : Prop where
  n0 : -9223372036854775808 ≤ x.n
  n1 : x.n ≤ 9223372036854775807
  u0 : 0 ≤ x.u
  u1 : x.u ≤ 18446744073709551615
  s1 : x.s.size ≤ 140737488351232

/-- Things in memory, below block B. -/
def Items (w : World) (B : Nat) (A : Option Addr) (xs : List Item) : Prop :=
  ∀ i x, xs[i]? = some x → ∃ ad, A = some ad ∧ ad.block < B ∧ x.Ok ∧ w.cell? (ad.add (i * 4)) = some (.int .i64 x.k) ∧ w.cell? ⟨(ad.add (i * 4)).block, (ad.add (i * 4)).off + 1, none⟩ = some (.int .i64 x.n) ∧ w.cell? ⟨(ad.add (i * 4)).block, (ad.add (i * 4)).off + 2, none⟩ = some (.int .u64 x.u) ∧ w.cell? ⟨(ad.add (i * 4)).block, (ad.add (i * 4)).off + 3, none⟩ = some (.string x.s)

theorem add_block (a : Addr) (n : Nat) : (a.add n).block = a.block := by unfold Addr.add; split <;> rfl

theorem Items.keep {w w' : World} {B : Nat} {A : Option Addr} {xs : List Item} (h : Items w B A xs) (hb : ∀ k, k < B → w'.heap[k]? = w.heap[k]?) : Items w' B A xs := by
  intro i x hx
  obtain ⟨ad, e, hlt, ok, h0, h1, h2, h3⟩ := h i x hx
  have hc : ∀ q : Addr, q.block = (ad.add (i * 4)).block → w'.cell? q = w.cell? q := fun q e => World.cell?_of_block (hb _ (by rw [e, add_block]; exact hlt))
  exact ⟨ad, e, hlt, ok, (hc (ad.add (i * 4)) rfl).trans h0, (hc ⟨(ad.add (i * 4)).block, (ad.add (i * 4)).off + 1, none⟩ rfl).trans h1, (hc ⟨(ad.add (i * 4)).block, (ad.add (i * 4)).off + 2, none⟩ rfl).trans h2, (hc ⟨(ad.add (i * 4)).block, (ad.add (i * 4)).off + 3, none⟩ rfl).trans h3⟩
theorem Items.below {w w' : World} {B : Nat} {A : Option Addr} {xs : List Item} (h : Items w B A xs) (hb : Below B w w') : Items w' B A xs := h.keep hb.block

/-- How many letters in all. -/
def total (xs : List Item) : Nat := (xs.map (·.s.size)).sum
theorem total_take (xs : List Item) (i : Nat) (x : Item) (h : xs[i]? = some x) : total (xs.take (i + 1)) = total (xs.take i) + x.s.size := by
  obtain ⟨hi, rfl⟩ := List.getElem?_eq_some_iff.1 h
  unfold total
  rw [List.take_succ_eq_append_getElem hi, List.map_append, List.sum_append]
  simp
theorem total_le (xs : List Item) (n m : Nat) (h : xs.length ≤ n) (hs : ∀ x ∈ xs, x.s.size ≤ m) : total xs ≤ n * m := by
  induction xs generalizing n with
  | nil => simp [total]
  | cons x t ih =>
    obtain ⟨q, rfl⟩ : ∃ q, n = q + 1 := ⟨n - 1, by simp at h; omega⟩
    have h1 := ih q (by simpa using h) (fun y hy => hs y (by simp [hy]))
    have h2 := hs x (by simp)
    rw [Nat.add_mul]
    simp only [total, List.map_cons, List.sum_cons] at *
    omega

/-- Are they few? -/
def fewB (xs : List Item) : Bool := decide (xs.length ≤ 60 ∧ total xs ≤ 1000)

set_option maxRecDepth 100000 in
theorem few_any (A : Option Addr) (cap : Nat) (xs : List Item) (w : World) (hx : Items w w.heap.size A xs) (hlen : xs.length ≤ maxLen) :
    Calls Try.prog 12 #[.slice A xs.length cap] w fun e w' => e = .returned (.bool (fewB xs)) ∧ w = w' := by
  unfold maxLen at hlen
  by_cases h60 : 60 < xs.length
  · have hF := Lib.hid (show fewB xs = false by unfold fewB; rw [decide_eq_false]; omega)
    go_enter Try.func12, Try.ntmps12
    go_wp2
    go_ret
    exact ⟨by rw [hF.out]; rfl, rfl⟩
  · have hok : ∀ (i : Nat) (x : Item), xs[i]? = some x → x.Ok := fun i x h => by
      obtain ⟨_, _, _, ok, _⟩ := hx i x h
      exact ok
    have htot : ∀ i, total (xs.take i) ≤ 60 * 140737488351232 := fun i => total_le _ _ _ (by rw [List.length_take]; omega) (fun x hxm => by
      obtain ⟨j, hj, rfl⟩ := List.getElem_of_mem (List.mem_of_mem_take hxm)
      exact (hok j _ (List.getElem?_eq_getElem hj)).s1)
    have HT := Lib.hid htot
    have HX := Lib.hid hx
    clear hok htot hx
    go_enter Try.func12, Try.ntmps12
    go_wp2
    go_loop [3, 4] (fun n i => ∃ k : Nat, k ≤ xs.length ∧ i = .int .i64 k ∧ n = .int .i64 (total (xs.take k))) (fun _ i => xs.length - (intOf i).toNat)
    case atStart => exact ⟨0, by omega, rfl, rfl⟩
    case round =>
      obtain ⟨k, hk, rfl, rfl⟩ := hrel
      have ht := HT.out k
      by_cases hlt : k < xs.length
      · obtain ⟨x, hxk⟩ : ∃ x, xs[k]? = some x := ⟨_, List.getElem?_eq_getElem hlt⟩
        obtain ⟨ad, rfl, hb, ok, h0, h1, h2, h3⟩ := HX.out k x hxk
        have HN := Lib.hid (total_take xs k x hxk)
        have hs1 := ok.s1
        clear hxk
        go_wp2
        go_round
        case rel => exact ⟨k + 1, by omega, by go_num, by rw [HN.out]; go_num⟩
        case measure => simp [intOf]; omega
      · have hk9 : k = xs.length := by omega
        subst hk9
        have HF := Lib.hid (show fewB xs = decide ((total xs : Int) ≤ 1000) by unfold fewB; apply decide_eq_decide.2; omega)
        go_wp2
        go_ret
        exact ⟨by rw [HF.out]; rfl, rfl⟩

/-- A number's lowest byte. -/
def b8 (n : Int) : UInt8 := UInt8.ofNat (n % 256).toNat
theorem b8_mod (n : Int) : n % 256 = ((b8 n).toNat : Int) := by
  have h : (n % 256).toNat < 256 := by omega
  rw [b8, UInt8.toNat_ofNat', Nat.mod_eq_of_lt h]
  omega

/-- What a thing is as bytes. -/
def Item.bytes (x : Item) : List UInt8 :=
  if x.k = 0 then [b8 x.n] else if x.k = 1 then lput x.u.toNat else if x.k = 3 then Zig.zput x.n else if x.k = 4 then tput x.s.data.toList else if x.k = 5 then x.s.data.toList else []

theorem Item.bytes_le (x : Item) (h : x.Ok) : x.bytes.length ≤ x.s.size + 10 := by
  have hs : x.s.data.toList.length = x.s.size := by simp
  have hu0 := h.u0; have hu1 := h.u1; have hs1 := h.s1
  have hz := Zig.zig_range h.n0 h.n1
  have l1 := lput_len10 (n := x.u.toNat) (by omega)
  have l2 : (Zig.zput x.n).length ≤ 10 := lput_len10 (n := (Zig.zig x.n).toNat) (by omega)
  have l3 := lput_len10 (n := x.s.data.toList.length) (by omega)
  have l4 : (tput x.s.data.toList).length = (lput x.s.data.toList.length).length + x.s.data.toList.length := by unfold tput; rw [List.length_append]
  unfold Item.bytes
  repeat' split
  all_goals first | omega | simp

/-- An item as a value. -/
def Item.val (x : Item) : Value := .agg #[.int .i64 x.k, .int .i64 x.n, .int .u64 x.u, .string x.s]

set_option maxRecDepth 100000 in
theorem put_any (a : Nat) (R : Option Nat) (l : List UInt8) (x : Item) (w : World) (h : Wr w a R l) (ok : x.Ok) (hl : l.length + x.s.size + 10 ≤ 1073741824) :
    Calls Try.prog 14 #[.pointer (some ⟨a, 0, none⟩), .agg #[.int .i64 x.k, .int .i64 x.n, .int .u64 x.u, .string x.s]] w (WrEnds a R (l ++ x.bytes) w) := by
  have hb0 : Below w.heap.size w (w.alloc (.cells #[.int .i64 x.k, .int .i64 x.n, .int .u64 x.u, .string x.s] 42)) := (Below.refl _ _).alloc (Nat.le_refl _) _
  have h1 := h.below hb0
  obtain ⟨n0, n1, u0, u1, s1⟩ := ok
  obtain ⟨k, n, u, s⟩ := x
  simp only at *
  by_cases k0 : k = 0
  · subst k0
    have HB := Lib.hid (show Item.bytes ⟨0, n, u, s⟩ = [b8 n] from if_pos rfl)
    have HW := Lib.hid (b8_mod n)
    have HC := Lib.hid (fun W hW => WByte_any a R l (b8 n) W hW (by omega))
    go_enter Try.func14, Try.ntmps14
    go_wp2_with fail
    rw [HW.out]
    refine (HC.out _ h1).mono ?_
    intro e w2 hq; have hE := hq.pre hb0; clear hq; have he := hE.1; subst he
    go_wp2_with fail
    go_ret
    rw [HB.out]; exact hE
  · by_cases k1 : k = 1
    · subst k1
      have HB := Lib.hid (show Item.bytes ⟨1, n, u, s⟩ = lput u.toNat from rfl)
      have HC := Lib.hid (fun W hW => WNum_any a R l u u0 u1 W hW (by omega))
      go_enter Try.func14, Try.ntmps14
      go_wp2_with fail
      refine (HC.out _ h1).mono ?_
      intro e w2 hq; have hE := hq.pre hb0; clear hq; have he := hE.1; subst he
      go_wp2_with fail
      go_ret
      rw [HB.out]; exact hE
    · by_cases k3 : k = 3
      · subst k3
        have HB := Lib.hid (show Item.bytes ⟨3, n, u, s⟩ = Zig.zput n from rfl)
        have HC := Lib.hid (fun W hW => WInt_any a R l n n0 n1 W hW (by omega))
        go_enter Try.func14, Try.ntmps14
        go_wp2_with fail
        refine (HC.out _ h1).mono ?_
        intro e w2 hq; have hE := hq.pre hb0; clear hq; have he := hE.1; subst he
        go_wp2_with fail
        go_ret
        rw [HB.out]; exact hE
      · by_cases k4 : k = 4
        · subst k4
          have HB := Lib.hid (show Item.bytes ⟨4, n, u, s⟩ = tput s.data.toList from rfl)
          have HC := Lib.hid (fun W hW => WText_any a R l s W hW (by omega))
          go_enter Try.func14, Try.ntmps14
          go_wp2_with fail
          refine (HC.out _ h1).mono ?_
          intro e w2 hq; have hE := hq.pre hb0; clear hq; have he := hE.1; subst he
          go_wp2_with fail
          go_ret
          rw [HB.out]; exact hE
        · by_cases k5 : k = 5
          · subst k5
            have HB := Lib.hid (show Item.bytes ⟨5, n, u, s⟩ = s.data.toList from rfl)
            have HC := Lib.hid (fun W hW => Raw_any a R l s W hW (by omega))
            go_enter Try.func14, Try.ntmps14
            go_wp2_with fail
            refine (HC.out _ h1).mono ?_
            intro e w2 hq; have hE := hq.pre hb0; clear hq; have he := hE.1; subst he
            go_wp2_with fail
            go_ret
            rw [HB.out]; exact hE
          · have HB := Lib.hid (show Item.bytes ⟨k, n, u, s⟩ = [] by unfold Item.bytes; rw [if_neg k0, if_neg k1, if_neg k3, if_neg k4, if_neg k5])
            have e0 : (k == 0) = false := by simpa using k0
            have e1 : (k == 1) = false := by simpa using k1
            have e3 : (k == 3) = false := by simpa using k3
            have e4 : (k == 4) = false := by simpa using k4
            have e5 : (k == 5) = false := by simpa using k5
            go_enter Try.func14, Try.ntmps14
            go_wp2_with fail
            go_ret
            rw [HB.out, List.append_nil]
            exact ⟨rfl, Kept.of_below hb0 (Nat.le_refl _), R, h1, fun k hk => .inl hk⟩

end Go.Proofs.Ytelljahjkfoleaa.Wire
