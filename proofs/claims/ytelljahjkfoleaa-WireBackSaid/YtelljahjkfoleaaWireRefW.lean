/-
  The document's own text for what is written, walked.
-/
import Derived.Test.YtelljahjkfoleaaWireItems
import Derived.Test.YtelljahjkfoleaaLebRef
import Derived.Deep.RegionHeld3
namespace Go.Proofs.Ytelljahjkfoleaa.Wire
open Go.RowKit Leb Mem

/-- All of them. -/
def bytesOf (xs : List Item) : List UInt8 := xs.flatMap Item.bytes
theorem bytesOf_take (xs : List Item) (i : Nat) (x : Item) (h : xs[i]? = some x) : bytesOf (xs.take (i + 1)) = bytesOf (xs.take i) ++ x.bytes := by
  obtain ⟨hi, rfl⟩ := List.getElem?_eq_some_iff.1 h
  unfold bytesOf
  rw [List.take_succ_eq_append_getElem hi, List.flatMap_append]
  simp
theorem bytesOf_len (xs : List Item) (h : ∀ x ∈ xs, x.Ok) : (bytesOf xs).length ≤ total xs + 10 * xs.length := by
  induction xs with
  | nil => simp [bytesOf, total]
  | cons x t ih =>
    have h1 := ih (fun y hy => h y (by simp [hy]))
    have h2 := x.bytes_le (h x (by simp))
    simp only [bytesOf, total, List.flatMap_cons, List.length_append, List.map_cons, List.sum_cons, List.length_cons] at *
    omega
theorem total_take_le (xs : List Item) (i : Nat) : total (xs.take i) ≤ total xs := by
  unfold total
  conv => rhs; rw [← List.take_append_drop i xs, List.map_append, List.sum_append]
  omega
/-- What few things hold. -/
theorem few_len (xs : List Item) (h : ∀ x ∈ xs, x.Ok) (hf : fewB xs = true) (i : Nat) : (bytesOf (xs.take i)).length ≤ 1600 := by
  unfold fewB at hf
  have hf := of_decide_eq_true hf
  have h1 := bytesOf_len (xs.take i) (fun x hx => h x (List.mem_of_mem_take hx))
  have h2 := total_take_le xs i
  have h3 : (xs.take i).length ≤ xs.length := by rw [List.length_take]; omega
  omega
theorem few_size (xs : List Item) (hf : fewB xs = true) (i : Nat) (x : Item) (h : xs[i]? = some x) : x.s.size ≤ 1000 := by
  unfold fewB at hf
  have hf := of_decide_eq_true hf
  have h1 := total_take xs i x h
  have h2 := total_take_le xs (i + 1)
  omega

/-- A list as a string. -/
def strOf (l : List UInt8) : ByteArray := ⟨l.toArray⟩

theorem str_app (l m : List UInt8) : (⟨l.toArray⟩ : ByteArray) ++ ⟨m.toArray⟩ = ⟨(l ++ m).toArray⟩ := ByteArray.mk_append_mk ..
theorem str_size (l : List UInt8) : (⟨l.toArray⟩ : ByteArray).size = l.length := by simp [ByteArray.size]

set_option maxRecDepth 100000 in
set_option maxHeartbeats 1000000 in
theorem ref_Write_any (A : Option Addr) (cap : Nat) (xs : List Item) (w : World) (hx : Items w w.heap.size A xs) (hok : ∀ x ∈ xs, x.Ok) (hlen : ∀ i, (bytesOf (xs.take i)).length ≤ 1600) (hsz : ∀ (i : Nat) (x : Item), xs[i]? = some x → x.s.size ≤ 1000) (hn : xs.length ≤ 60) :
    Calls Try.prog 16 #[.slice A xs.length cap] w fun e w' => e = .returned (.string ⟨(bytesOf xs).toArray⟩) ∧ Below w.heap.size w w' := by
  have HX := Lib.hid hx
  have HL := Lib.hid hlen
  have HO := Lib.hid hok
  have HZ := Lib.hid hsz
  clear hx hlen hok hsz
  go_enter Try.func16, Try.ntmps16
  go_wp2
  go_loopw [3, 4] (fun s i wr => ∃ k : Nat, k ≤ xs.length ∧ i = .int .i64 k ∧ s = .string ⟨(bytesOf (xs.take k)).toArray⟩ ∧ Below w.heap.size w wr) (fun _ i _ => xs.length - (intOf i).toNat)
  case atStart => exact ⟨0, by omega, rfl, rfl, Below.refl _ _⟩
  case round =>
    obtain ⟨k, hk, rfl, rfl, hB⟩ := hrel
    have hl := HL.out k
    have hl1 := HL.out (k + 1)
    by_cases hlt : k < xs.length
    · obtain ⟨x, hxk⟩ : ∃ x, xs[k]? = some x := ⟨_, List.getElem?_eq_getElem hlt⟩
      obtain ⟨ad, rfl, hb, ok, h0, h1, h2, h3⟩ := (HX.out.below hB) k x hxk
      have HN := Lib.hid (bytesOf_take xs k x hxk)
      have hs1 := HZ.out k x hxk
      clear hxk
      obtain ⟨l, hl0⟩ : ∃ l, bytesOf (xs.take k) = l := ⟨_, rfl⟩
      rw [hl0] at hl HN ⊢
      clear hl0
      obtain ⟨kk, n, u, s⟩ := x
      simp only at *
      have hB1 : Below w.heap.size w (wr.alloc (.cells #[.int .i64 kk, .int .i64 n, .int .u64 u, .string s] 42)) := hB.alloc hB.size _
      have hzl : (⟨l.toArray⟩ : ByteArray).size ≤ 1600 := by rw [str_size]; exact hl
      obtain ⟨n0, n1, u0, u1, -⟩ := ok
      simp only at n0 n1 u0 u1
      by_cases k0 : kk = 0
      · subst k0
        have HB := Lib.hid (show Item.bytes ⟨0, n, u, s⟩ = [b8 n] from if_pos rfl)
        have HE := hB1.alloc (by simp; have := hB.size; omega) (.cells #[.int .u8 (n % 256)] 5)
        have kc := conv_one (P := Try.prog) 65 5 Try.underlying65 Try.underlying5 (n % 256) 9 Try.underlying9
        go_wp2
        go_roundw
        case rel => exact ⟨k + 1, by omega, by go_num, by rw [HN.out, HB.out, ← str_app]; rfl, HE⟩
        case measure => simp [intOf]; omega
      · by_cases k1 : kk = 1
        · subst k1
          have HB := Lib.hid (show Item.bytes ⟨1, n, u, s⟩ = lput u.toNat from rfl)
          have hp := lput_len10 (n := u.toNat) (by omega)
          have hp2 : (⟨(lput u.toNat).toArray⟩ : ByteArray).size ≤ 10 := by rw [str_size]; exact hp
          go_wp2_with (go_at_call 32; refine (ref_put_any u u0 u1 _).mono ?_; rintro e w2 ⟨rfl, hb2⟩; have HE := hB1.trans (hb2.mono (by simp; have := hB.size; omega)))
          go_roundw
          case rel => exact ⟨k + 1, by omega, by go_num, by rw [HN.out, HB.out, ← str_app], HE⟩
          case measure => simp [intOf]; omega
        · by_cases k3 : kk = 3
          · subst k3
            have HB := Lib.hid (show Item.bytes ⟨3, n, u, s⟩ = Zig.zput n from rfl)
            have hz := Zig.zig_range n0 n1
            have hp : (Zig.zput n).length ≤ 10 := lput_len10 (n := (Zig.zig n).toNat) (by omega)
            have hp2 : (⟨(Zig.zput n).toArray⟩ : ByteArray).size ≤ 10 := by rw [str_size]; exact hp
            go_wp2_with (go_at_call 33; refine (Zig.ref_Put_any n n0 n1 _).mono ?_; rintro e w2 ⟨rfl, hb2⟩; have HE := hB1.trans (hb2.mono (by simp; have := hB.size; omega)))
            go_roundw
            case rel => exact ⟨k + 1, by omega, by go_num, by rw [HN.out, HB.out, ← str_app], HE⟩
            case measure => simp [intOf]; omega
          · by_cases k4 : kk = 4
            · subst k4
              have HB := Lib.hid (show Item.bytes ⟨4, n, u, s⟩ = tput s.data.toList from rfl)
              have hp := lput_len10 (n := s.size) (by omega)
              have hp2 : (⟨(lput s.size).toArray⟩ : ByteArray).size ≤ 10 := by rw [str_size]; exact hp
              have hu := u64_len (n := s.size) (by omega)
              have HP := Lib.hid (fun W => ref_put_any (s.size : Int) (by omega) (by omega) W)
              rw [Int.toNat_natCast] at HP
              have hS : (wr.alloc (.cells #[.int .i64 4, .int .i64 n, .int .u64 u, .string s] 42)).cell? ⟨wr.heap.size, 3, none⟩ = some (.string s) := (Blk.new wr _ _).cell 3
              go_wp2_with fail
              obtain ⟨W, hW⟩ : ∃ W, wr.alloc (.cells #[.int .i64 4, .int .i64 n, .int .u64 u, .string s] 42) = W := ⟨_, rfl⟩
              rw [hW] at hS hB1 ⊢
              have hWs : w.heap.size ≤ W.heap.size := hB1.size
              have hWl : wr.heap.size < W.heap.size := by rw [← hW]; simp
              have HWl := Lib.hid hWl
              clear hW
              have hq1 := fun W => run_string_add_sum (P := Try.prog) W (⟨l.toArray⟩ : ByteArray) (⟨(lput s.size).toArray⟩ : ByteArray) (by omega)
              have hq2 := fun W => run_string_add_sum (P := Try.prog) W ((⟨l.toArray⟩ : ByteArray) ++ (⟨(lput s.size).toArray⟩ : ByteArray)) s (by rw [ByteArray.size_append]; omega)
              go_region_held3 (fun w' => w'.cell? ⟨wr.heap.size, 3, none⟩ = some (.string s)) (first | exact hS | exact hS2 | go_keep) (first | (go_at_call 32; (refine (HP.out _).mono ?_); rintro e w2 ⟨rfl, hb2⟩; have hS2 := (hb2.cell (p := ⟨wr.heap.size, 3, none⟩) HWl.out).trans hS; have HE := hB1.drew.trans (hb2.mono hWs)))
              clear hq1 hq2
              go_wp2
              go_roundw
              case rel => exact ⟨k + 1, by omega, by go_num, by rw [HN.out, HB.out, str_app]; show Value.string (_ ++ strOf s.data.toList) = _; unfold strOf; rw [str_app, List.append_assoc]; unfold tput; rw [show s.data.toList.length = s.size by simp], HE⟩
              case measure => simp [intOf]; omega
            · by_cases k5 : kk = 5
              · subst k5
                have HB := Lib.hid (show Item.bytes ⟨5, n, u, s⟩ = s.data.toList from rfl)
                go_wp2
                go_roundw
                case rel => exact ⟨k + 1, by omega, by go_num, by rw [HN.out, HB.out, ← str_app], hB1⟩
                case measure => simp [intOf]; omega
              · have HB := Lib.hid (show Item.bytes ⟨kk, n, u, s⟩ = [] by unfold Item.bytes; rw [if_neg k0, if_neg k1, if_neg k3, if_neg k4, if_neg k5])
                have e0 : (kk == 0) = false := by simpa using k0
                have e1 : (kk == 1) = false := by simpa using k1
                have e3 : (kk == 3) = false := by simpa using k3
                have e4 : (kk == 4) = false := by simpa using k4
                have e5 : (kk == 5) = false := by simpa using k5
                clear k0 k1 k3 k4 k5
                go_wp2
                go_roundw
                case rel => exact ⟨k + 1, by omega, by go_num, by rw [HN.out, HB.out, List.append_nil], hB1⟩
                case measure => simp [intOf]; omega
    · have hk9 : k = xs.length := by omega
      subst hk9
      have HT := Lib.hid (List.take_length (l := xs))
      go_wp2
      go_ret
      exact ⟨by simp, hB⟩

end Go.Proofs.Ytelljahjkfoleaa.Wire
