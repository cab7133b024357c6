/-
  The law of layer 5 on what is read back, walked.
-/
import Derived.Test.YtelljahjkfoleaaWireLawW
namespace Go.Proofs.Ytelljahjkfoleaa.Wire
open Go.RowKit Leb Mem

attribute [local go_sem ↓] Go.wp_at_zero Go.wp_at_succ

theorem lraw_back (X s Y : List UInt8) : lraw (X ++ s ++ Y) (X.length : Int) (s.length : Int) = (s, (X.length : Int) + s.length, 0) := by
  unfold lraw
  rw [if_neg (by omega), if_neg (by simp only [List.length_append]; omega)]
  simp
theorem ltext_back (X s Y : List UInt8) (hs : s.length ≤ 1073741824) : ltext (X ++ tput s ++ Y) (X.length : Int) (s.length : Int) = (s, (X.length : Int) + (tput s).length, 0) := by
  have hg : lget (X ++ tput s ++ Y) (X.length : Int) = (s.length, (X.length : Int) + (lput s.length).length, 0) := by
    have := lget_back (n := s.length) (by omega) X (s ++ Y)
    rw [← this]
    congr 1
    unfold tput
    simp [List.append_assoc]
  have hc : lcount (X ++ tput s ++ Y) (X.length : Int) (s.length : Int) = (s.length, (X.length : Int) + (lput s.length).length, 0) := by
    rw [lcount_ok (by rw [hg]) (by omega) (by rw [hg]; simp), hg]
  unfold ltext
  rw [hc]
  simp only [ne_eq, not_true_eq_false, if_false]
  have := lraw_back (X ++ lput s.length) s Y
  rw [List.length_append] at this
  have e : X ++ tput s ++ Y = X ++ lput s.length ++ s ++ Y := by unfold tput; simp [List.append_assoc]
  rw [e]
  rw [show ((X.length + (lput s.length).length : Nat) : Int) = (X.length : Int) + (lput s.length).length by omega] at this
  rw [this]
  unfold tput
  rw [List.length_append]
  congr 2
  omega
theorem zag_back (n : Int) (h0 : -9223372036854775808 ≤ n) (h1 : n ≤ 9223372036854775807) : Zig.zag (((Zig.zig n).toNat : Nat) : Int) = n := by
  rw [Int.toNat_of_nonneg (Zig.zig_range h0 h1).1, Zig.zag_zig]

/-- The text that is read: what stands ahead of thing k, it, and what stands behind. -/
theorem split_at (xs : List Item) (Y : List UInt8) (k : Nat) (x : Item) (h : xs[k]? = some x) : bytesOf xs ++ Y = bytesOf (xs.take k) ++ x.bytes ++ (bytesOf (xs.drop (k + 1)) ++ Y) := by
  have e : xs = xs.take (k + 1) ++ xs.drop (k + 1) := (List.take_append_drop _ _).symm
  conv => lhs; rw [e]
  unfold bytesOf
  rw [List.flatMap_append]
  have := bytesOf_take xs k x h
  unfold bytesOf at this
  rw [this]
  simp [List.append_assoc]

theorem at_mid (S : ByteArray) (X Y : List UInt8) (b : UInt8) (h : S.data.toList = X ++ [b] ++ Y) : ∃ hp : X.length < S.size, S[X.length] = b := by
  have hl : S.size = S.data.toList.length := by simp
  have hp : X.length < S.size := by rw [hl, h]; simp
  refine ⟨hp, ?_⟩
  have e : S[X.length] = S.data.toList[X.length]'(by rw [← hl]; exact hp) := rfl
  rw [e]
  simp [h]

theorem Byte_back (r : Nat) (S : ByteArray) (X Y : List UInt8) (b : UInt8) (w : World) (hs : S.size ≤ 1073741824) (h : S.data.toList = X ++ [b] ++ Y) (hR : Rd w r S X.length 0) :
    Calls Try.prog 17 #[.pointer (some ⟨r, 0, none⟩)] w fun e w' => e = .returned (.int .u8 b.toNat) ∧ Rd w' r S ((X ++ [b]).length : Nat) 0 ∧ Kept (· = r) w w' := by
  obtain ⟨hp, e⟩ := at_mid S X Y b h
  refine (Byte_ok r S X.length 0 w hs hp hR).mono fun e' w' hq => ?_
  rw [e] at hq
  obtain ⟨h1, h2, h3⟩ := hq.good
  exact ⟨h1, by rw [List.length_append]; exact h2, h3⟩
theorem Num_back (r : Nat) (S : ByteArray) (X Y : List UInt8) (u : Int) (u0 : 0 ≤ u) (u1 : u ≤ 18446744073709551615) (w : World) (hs : S.size ≤ 1073741824) (h : S.data.toList = X ++ lput u.toNat ++ Y) (hR : Rd w r S X.length 0) :
    Calls Try.prog 18 #[.pointer (some ⟨r, 0, none⟩)] w fun e w' => e = .returned (.int .u64 u) ∧ Rd w' r S ((X ++ lput u.toNat).length : Nat) 0 ∧ Kept (· = r) w w' := by
  have hg := lget_back (n := u.toNat) (by omega) X Y
  rw [← h] at hg
  refine (RNum_any r S X.length 0 w hs hR).mono fun e' w' hq => ?_
  rw [hg] at hq
  obtain ⟨h1, h2, h3⟩ := hq.good
  exact ⟨by rw [h1, Int.toNat_of_nonneg u0], by rw [List.length_append]; exact h2, h3⟩
theorem Int_back (r : Nat) (S : ByteArray) (X Y : List UInt8) (n : Int) (n0 : -9223372036854775808 ≤ n) (n1 : n ≤ 9223372036854775807) (w : World) (hs : S.size ≤ 1073741824) (h : S.data.toList = X ++ Zig.zput n ++ Y) (hR : Rd w r S X.length 0) :
    Calls Try.prog 19 #[.pointer (some ⟨r, 0, none⟩)] w fun e w' => e = .returned (.int .i64 n) ∧ Rd w' r S ((X ++ Zig.zput n).length : Nat) 0 ∧ Kept (· = r) w w' := by
  have hz := Zig.zig_range n0 n1
  have hg := lget_back (n := (Zig.zig n).toNat) (by omega) X Y
  unfold Zig.zput at h ⊢
  rw [← h] at hg
  refine (RInt_any r S X.length 0 w hs hR).mono fun e' w' hq => ?_
  rw [hg] at hq
  obtain ⟨h1, h2, h3⟩ := hq.good
  exact ⟨by rw [h1, zag_back n n0 n1], by rw [List.length_append]; exact h2, h3⟩
theorem Text_back (r : Nat) (S : ByteArray) (X Y : List UInt8) (s : ByteArray) (hz : s.size ≤ 1073741824) (w : World) (hs : S.size ≤ 1073741824) (h : S.data.toList = X ++ tput s.data.toList ++ Y) (hR : Rd w r S X.length 0) :
    Calls Try.prog 20 #[.pointer (some ⟨r, 0, none⟩), .int .i64 s.size] w fun e w' => e = .returned (.string s) ∧ Rd w' r S ((X ++ tput s.data.toList).length : Nat) 0 ∧ Kept (· = r) w w' := by
  have hl : s.data.toList.length = s.size := by simp
  have hg := ltext_back X s.data.toList Y (by omega)
  rw [← h, hl] at hg
  refine (RText_any r S X.length 0 s.size w hs (by omega) hR).mono fun e' w' hq => ?_
  rw [hg] at hq
  obtain ⟨h1, h2, h3⟩ := hq.good
  exact ⟨h1, by rw [List.length_append]; exact h2, h3⟩
theorem Raw_back (r : Nat) (S : ByteArray) (X Y : List UInt8) (s : ByteArray) (w : World) (hs : S.size ≤ 1073741824) (h : S.data.toList = X ++ s.data.toList ++ Y) (hR : Rd w r S X.length 0) :
    Calls Try.prog 21 #[.pointer (some ⟨r, 0, none⟩), .int .i64 s.size] w fun e w' => e = .returned (.string s) ∧ Rd w' r S ((X ++ s.data.toList).length : Nat) 0 ∧ Kept (· = r) w w' := by
  have hl : s.data.toList.length = s.size := by simp
  have hL : S.size = X.length + s.size + Y.length := by
    have : S.size = S.data.toList.length := by simp
    rw [this, h]; simp only [List.length_append, hl]
  have hg := lraw_back X s.data.toList Y
  rw [← h, hl] at hg
  refine (RRaw_any r S X.length 0 s.size w hs (by omega) hR).mono fun e' w' hq => ?_
  rw [hg] at hq
  obtain ⟨h1, h2, h3⟩ := hq.good
  exact ⟨h1, by rw [List.length_append, hl]; exact h2, h3⟩

set_option maxRecDepth 100000 in
set_option maxHeartbeats 2000000 in
theorem wireBack_walk (A : Option Addr) (cap : Nat) (xs : List Item) (hlen : xs.length ≤ maxLen) (bh : ByteArray) (hbh : bh.size ≤ maxLen) (w : World) (hx : Items w w.heap.size A xs) :
    Calls Try.prog 5 #[.slice A xs.length cap, .string bh] w fun e w' => e = .returned (.bool true) ∧ Below w.heap.size w w' := by
  have HF := Lib.hid (fun W (hb : Below w.heap.size w W) => few_any A cap xs W (hx.at hb) hlen)
  unfold maxLen at hlen hbh
  have hok := hx.ok
  have HX := Lib.hid hx
  clear hx
  by_cases hf : fewB xs = true
  · rw [hf] at HF
    have h60 : xs.length ≤ 60 := by unfold fewB at hf; exact (of_decide_eq_true hf).1
    have HS := Lib.hid (few_size xs hf)
    have HL := Lib.hid (few_len xs hok hf)
    clear hok hf
    by_cases hb1000 : 1000 < bh.size
    · go_enter Try.func5, Try.ntmps5
      go_wp2_with (go_at_call 8; refine (works_any _).mono ?_; rintro e w1 ⟨rfl, hb1⟩)
      refine (HF.out _ hb1).mono ?_
      rintro e w2 ⟨rfl, rfl⟩
      go_wp2_with fail
      go_ret
      exact ⟨rfl, hb1⟩
    go_enter Try.func5, Try.ntmps5
    go_wp2_with (go_at_call 8; refine (works_any _).mono ?_; rintro e w1 ⟨rfl, hb1⟩)
    refine (HF.out _ hb1).mono ?_
    rintro e w2 ⟨rfl, rfl⟩
    go_wp2_with fail
    refine (New_any _).mono ?_
    rintro e w3 ⟨rfl, hW3, hb3⟩
    have h3 : Ours w w3 w1.heap.size none [] := ⟨hW3, hb1.trans (hb3.mono hb1.size), hb1.size, fun k h => by cases h⟩
    clear hW3 hb3 HF hb1
    obtain ⟨a, ha⟩ : ∃ a, w1.heap.size = a := ⟨_, rfl⟩
    rw [ha] at h3 ⊢
    clear ha
    go_wp2_with fail
    go_loopw [6, 7] (fun p i wr => ∃ k : Nat, k ≤ xs.length ∧ i = .int .i64 k ∧ p = .pointer (some ⟨a, 0, none⟩) ∧ ∃ R, Ours w wr a R (bytesOf (xs.take k))) (fun _ i _ => xs.length - (intOf i).toNat)
    case atStart => exact ⟨0, by omega, rfl, rfl, none, h3⟩
    case round =>
      clear h3
      obtain ⟨k, hk, rfl, rfl, R, hO⟩ := hrel
      have hl := HL.out k
      by_cases hlt : k < xs.length
      · obtain ⟨x, hxk⟩ : ∃ x, xs[k]? = some x := ⟨_, List.getElem?_eq_getElem hlt⟩
        obtain ⟨ad, rfl, hb, ok, h0, h1, h2, h3⟩ := (HX.out.below hO.below) k x hxk
        have HN := Lib.hid (bytesOf_take xs k x hxk)
        have hs1 := HS.out k x hxk
        clear hxk
        have HP := Lib.hid (put_any a R (bytesOf (xs.take k)) x wr hO.wr ok (by omega))
        clear ok
        go_wp2_with fail
        refine (HP.out).mono ?_
        intro e w4 hq
        obtain ⟨rfl, R2, hO2⟩ := hO.step hq
        rw [← HN.out] at hO2
        clear hq
        go_wp2_with fail
        go_roundw
        case rel => exact ⟨k + 1, by omega, by go_num, rfl, R2, hO2⟩
        case measure => simp [intOf]; omega
      · have hk9 : k = xs.length := by omega
        subst hk9
        rw [List.take_length] at hO hl
        have hz0 : (⟨(bytesOf xs).toArray⟩ : ByteArray).size ≤ 1600 := by rw [str_size]; exact hl
        go_wp2_with fail
        refine (Bytes_any a R _ _ hO.wr).mono ?_
        rintro e w5 ⟨rfl, rfl⟩
        have hB := hO.below
        clear hO hlt hk
        obtain ⟨L, hL⟩ : ∃ L, bytesOf xs = L := ⟨_, rfl⟩
        rw [hL] at hl hz0 ⊢
        have HLL := Lib.hid hL
        clear hL
        obtain ⟨SL, hSL⟩ : ∃ SL : ByteArray, (⟨L.toArray⟩ : ByteArray) = SL := ⟨_, rfl⟩
        rw [hSL] at hz0 ⊢
        have HSL := Lib.hid hSL
        clear hSL
        go_wp2_with fail
        obtain ⟨S, hS⟩ : ∃ S : ByteArray, SL ++ bh = S := ⟨_, rfl⟩
        have hz : S.size = SL.size + bh.size := by rw [← hS, ByteArray.size_append]
        have HZ := Lib.hid hz
        have hz9 : S.size ≤ 2600 := by omega
        rw [hS]
        have HSS := Lib.hid (show S.data.toList = L ++ bh.data.toList by rw [← hS, ← HSL.out, ByteArray.data_append, Array.toList_append])
        clear hS hz
        refine (Of_any S _).mono ?_
        rintro e w6 ⟨rfl, hR, hb6⟩
        have hB6 := hB.trans (hb6.mono hB.size)
        have hr0 := hB.size
        obtain ⟨r, hr⟩ : ∃ r, wr.heap.size = r := ⟨_, rfl⟩
        rw [hr] at hR hr0 ⊢
        clear hr hb6 hB
        go_wp2_with fail
        go_loopw [10] (fun i wr => ∃ k : Nat, k ≤ xs.length ∧ i = .int .i64 k ∧ Rd wr r S ((bytesOf (xs.take k)).length : Nat) 0 ∧ Below w.heap.size w wr) (fun i _ => xs.length - (intOf i).toNat)
        case atStart => exact ⟨0, by omega, rfl, by simpa [bytesOf] using hR, hB6⟩
        case round =>
          clear hR hB6
          obtain ⟨k, hk, rfl, hR, hB⟩ := hrel
          by_cases hlt : k < xs.length
          · obtain ⟨x, hxk⟩ : ∃ x, xs[k]? = some x := ⟨_, List.getElem?_eq_getElem hlt⟩
            obtain ⟨ad, rfl, hb, ok, h0, h1, h2, h3⟩ := (HX.out.below hB) k x hxk
            have HN := Lib.hid (bytesOf_take xs k x hxk)
            have hs1 := HS.out k x hxk
            have hsp := split_at xs bh.data.toList k x hxk
            rw [HLL.out, ← HSS.out] at hsp
            clear hxk
            obtain ⟨X, hX⟩ : ∃ X, bytesOf (xs.take k) = X := ⟨_, rfl⟩
            obtain ⟨Y, hY⟩ : ∃ Y, bytesOf (xs.drop (k + 1)) ++ bh.data.toList = Y := ⟨_, rfl⟩
            rw [hX] at hR HN hsp
            rw [hY] at hsp
            clear hX hY
            obtain ⟨kk, n, u, s⟩ := x
            obtain ⟨n0, n1, u0, u1, -⟩ := ok
            simp only at *
            by_cases k0 : kk = 0
            · subst k0
              have HB := Lib.hid (show Item.bytes ⟨0, n, u, s⟩ = [b8 n] from rfl)
              rw [HB.out] at hsp
              have hC0 := fun W hW => Byte_back r S X Y (b8 n) W (by omega) hsp hW
              rw [← b8_mod n] at hC0
              have HC := Lib.hid hC0
              clear hC0
              have hC := (Blk.new wr 42 #[.int .i64 0, .int .i64 n, .int .u64 u, .string s]).cell 1
              have hBw := hB.alloc hB.size (.cells #[.int .i64 0, .int .i64 n, .int .u64 u, .string s] 42)
              have hRw := Blk.alloc hR (.cells #[.int .i64 0, .int .i64 n, .int .u64 u, .string s] 42)
              have hgr : wr.heap.size ≠ r := by have := hR.lt; omega
              have hgl : wr.heap.size < (wr.alloc (.cells #[.int .i64 0, .int .i64 n, .int .u64 u, .string s] 42)).heap.size := by simp
              clear hR hB
              go_wp2_with fail
              generalize wr.alloc (.cells #[.int .i64 0, .int .i64 n, .int .u64 u, .string s] 42) = W at *
              have hRd : Rd W.drew r S _ 0 := hRw
              have hBd := hBw.drew
              have hCd : W.drew.cell? ⟨wr.heap.size, 1, none⟩ = some (.int .i64 n) := hC
              have HGL := Lib.hid (show wr.heap.size < W.drew.heap.size from hgl)
              clear hRw hBw hgl
              go_region_held3 (fun w' => w'.cell? ⟨wr.heap.size, 1, none⟩ = some (.int .i64 n)) (first | exact hC | exact hCd | exact hC3 | go_keep) (first | (go_at_call 17; (with_reducible refine (HC.out _ hRd).mono ?_); rintro e w3 ⟨rfl, hR3, hk3⟩; have hC3 := (hk3.cell (p := ⟨wr.heap.size, 1, none⟩) HGL.out hgr).trans hCd; have hB3 := Kept.fresh hBd hk3 hBd.size (by rintro k rfl; exact hr0)))
              go_wp2_with fail
              · have hbad : (!(n % 256 == n % 256)) = true := by assumption
                simp at hbad
              · go_roundw
                case rel => exact ⟨k + 1, by omega, by go_num, by rw [HN.out, HB.out]; exact hR3, hB3⟩
                case measure => simp [intOf]; omega
            · by_cases k1 : kk = 1
              · subst k1
                have HB := Lib.hid (show Item.bytes ⟨1, n, u, s⟩ = lput u.toNat from rfl)
                rw [HB.out] at hsp
                have HC := Lib.hid (fun W hW => Num_back r S X Y u u0 u1 W (by omega) hsp hW)
                have hC := (Blk.new wr 42 #[.int .i64 1, .int .i64 n, .int .u64 u, .string s]).cell 2
                have hBw := hB.alloc hB.size (.cells #[.int .i64 1, .int .i64 n, .int .u64 u, .string s] 42)
                have hRw := Blk.alloc hR (.cells #[.int .i64 1, .int .i64 n, .int .u64 u, .string s] 42)
                have hgr : wr.heap.size ≠ r := by have := hR.lt; omega
                have hgl : wr.heap.size < (wr.alloc (.cells #[.int .i64 1, .int .i64 n, .int .u64 u, .string s] 42)).heap.size := by simp
                clear hR hB
                go_wp2_with fail
                generalize wr.alloc (.cells #[.int .i64 1, .int .i64 n, .int .u64 u, .string s] 42) = W at *
                have hRd : Rd W.drew r S _ 0 := hRw
                have hBd := hBw.drew
                have hCd : W.drew.cell? ⟨wr.heap.size, 2, none⟩ = some (.int .u64 u) := hC
                have HGL := Lib.hid (show wr.heap.size < W.drew.heap.size from hgl)
                clear hRw hBw hgl
                go_region_held3 (fun w' => w'.cell? ⟨wr.heap.size, 2, none⟩ = some (.int .u64 u)) (first | exact hC | exact hCd | exact hC3 | go_keep) (first | (go_at_call 18; (with_reducible refine (HC.out _ hRd).mono ?_); rintro e w3 ⟨rfl, hR3, hk3⟩; have hC3 := (hk3.cell (p := ⟨wr.heap.size, 2, none⟩) HGL.out hgr).trans hCd; have hB3 := Kept.fresh hBd hk3 hBd.size (by rintro k rfl; exact hr0)))
                go_wp2_with fail
                go_roundw
                case rel => exact ⟨k + 1, by omega, by go_num, by rw [HN.out, HB.out]; exact hR3, hB3⟩
                case measure => simp [intOf]; omega
              · by_cases k3 : kk = 3
                · subst k3
                  have HB := Lib.hid (show Item.bytes ⟨3, n, u, s⟩ = Zig.zput n from rfl)
                  rw [HB.out] at hsp
                  have HC := Lib.hid (fun W hW => Int_back r S X Y n n0 n1 W (by omega) hsp hW)
                  have hC := (Blk.new wr 42 #[.int .i64 3, .int .i64 n, .int .u64 u, .string s]).cell 1
                  have hBw := hB.alloc hB.size (.cells #[.int .i64 3, .int .i64 n, .int .u64 u, .string s] 42)
                  have hRw := Blk.alloc hR (.cells #[.int .i64 3, .int .i64 n, .int .u64 u, .string s] 42)
                  have hgr : wr.heap.size ≠ r := by have := hR.lt; omega
                  have hgl : wr.heap.size < (wr.alloc (.cells #[.int .i64 3, .int .i64 n, .int .u64 u, .string s] 42)).heap.size := by simp
                  clear hR hB
                  go_wp2_with fail
                  generalize wr.alloc (.cells #[.int .i64 3, .int .i64 n, .int .u64 u, .string s] 42) = W at *
                  have hRd : Rd W.drew r S _ 0 := hRw
                  have hBd := hBw.drew
                  have hCd : W.drew.cell? ⟨wr.heap.size, 1, none⟩ = some (.int .i64 n) := hC
                  have HGL := Lib.hid (show wr.heap.size < W.drew.heap.size from hgl)
                  clear hRw hBw hgl
                  go_region_held3 (fun w' => w'.cell? ⟨wr.heap.size, 1, none⟩ = some (.int .i64 n)) (first | exact hC | exact hCd | exact hC3 | go_keep) (first | (go_at_call 19; (with_reducible refine (HC.out _ hRd).mono ?_); rintro e w3 ⟨rfl, hR3, hk3⟩; have hC3 := (hk3.cell (p := ⟨wr.heap.size, 1, none⟩) HGL.out hgr).trans hCd; have hB3 := Kept.fresh hBd hk3 hBd.size (by rintro k rfl; exact hr0)))
                  go_wp2_with fail
                  go_roundw
                  case rel => exact ⟨k + 1, by omega, by go_num, by rw [HN.out, HB.out]; exact hR3, hB3⟩
                  case measure => simp [intOf]; omega
                · by_cases k4 : kk = 4
                  · subst k4
                    have HB := Lib.hid (show Item.bytes ⟨4, n, u, s⟩ = tput s.data.toList from rfl)
                    rw [HB.out] at hsp
                    have HC := Lib.hid (fun W hW => Text_back r S X Y s (by omega) W (by omega) hsp hW)
                    have hC := (Blk.new wr 42 #[.int .i64 4, .int .i64 n, .int .u64 u, .string s]).cell 3
                    have hBw := hB.alloc hB.size (.cells #[.int .i64 4, .int .i64 n, .int .u64 u, .string s] 42)
                    have hRw := Blk.alloc hR (.cells #[.int .i64 4, .int .i64 n, .int .u64 u, .string s] 42)
                    have hgr : wr.heap.size ≠ r := by have := hR.lt; omega
                    have hgl : wr.heap.size < (wr.alloc (.cells #[.int .i64 4, .int .i64 n, .int .u64 u, .string s] 42)).heap.size := by simp
                    clear hR hB
                    go_wp2_with fail
                    generalize wr.alloc (.cells #[.int .i64 4, .int .i64 n, .int .u64 u, .string s] 42) = W at *
                    have hRd : Rd W.drew r S _ 0 := hRw
                    have hBd := hBw.drew
                    have hCd : W.drew.cell? ⟨wr.heap.size, 3, none⟩ = some (.string s) := hC
                    have HGL := Lib.hid (show wr.heap.size < W.drew.heap.size from hgl)
                    clear hRw hBw hgl
                    go_region_held3 (fun w' => w'.cell? ⟨wr.heap.size, 3, none⟩ = some (.string s)) (first | exact hC | exact hCd | exact hC3 | go_keep) (first | (go_at_call 20; (with_reducible refine (HC.out _ hRd).mono ?_); rintro e w3 ⟨rfl, hR3, hk3⟩; have hC3 := (hk3.cell (p := ⟨wr.heap.size, 3, none⟩) HGL.out hgr).trans hCd; have hB3 := Kept.fresh hBd hk3 hBd.size (by rintro k rfl; exact hr0)))
                    go_wp2_with fail
                    go_roundw
                    case rel => exact ⟨k + 1, by omega, by go_num, by rw [HN.out, HB.out]; exact hR3, hB3⟩
                    case measure => simp [intOf]; omega
                  · by_cases k5 : kk = 5
                    · subst k5
                      have HB := Lib.hid (show Item.bytes ⟨5, n, u, s⟩ = s.data.toList from rfl)
                      rw [HB.out] at hsp
                      have HC := Lib.hid (fun W hW => Raw_back r S X Y s W (by omega) hsp hW)
                      have hC := (Blk.new wr 42 #[.int .i64 5, .int .i64 n, .int .u64 u, .string s]).cell 3
                      have hBw := hB.alloc hB.size (.cells #[.int .i64 5, .int .i64 n, .int .u64 u, .string s] 42)
                      have hRw := Blk.alloc hR (.cells #[.int .i64 5, .int .i64 n, .int .u64 u, .string s] 42)
                      have hgr : wr.heap.size ≠ r := by have := hR.lt; omega
                      have hgl : wr.heap.size < (wr.alloc (.cells #[.int .i64 5, .int .i64 n, .int .u64 u, .string s] 42)).heap.size := by simp
                      clear hR hB
                      go_wp2_with fail
                      generalize wr.alloc (.cells #[.int .i64 5, .int .i64 n, .int .u64 u, .string s] 42) = W at *
                      have hRd : Rd W.drew r S _ 0 := hRw
                      have hBd := hBw.drew
                      have hCd : W.drew.cell? ⟨wr.heap.size, 3, none⟩ = some (.string s) := hC
                      have HGL := Lib.hid (show wr.heap.size < W.drew.heap.size from hgl)
                      clear hRw hBw hgl
                      go_region_held3 (fun w' => w'.cell? ⟨wr.heap.size, 3, none⟩ = some (.string s)) (first | exact hC | exact hCd | exact hC3 | go_keep) (first | (go_at_call 21; (with_reducible refine (HC.out _ hRd).mono ?_); rintro e w3 ⟨rfl, hR3, hk3⟩; have hC3 := (hk3.cell (p := ⟨wr.heap.size, 3, none⟩) HGL.out hgr).trans hCd; have hB3 := Kept.fresh hBd hk3 hBd.size (by rintro k rfl; exact hr0)))
                      go_wp2_with fail
                      go_roundw
                      case rel => exact ⟨k + 1, by omega, by go_num, by rw [HN.out, HB.out]; exact hR3, hB3⟩
                      case measure => simp [intOf]; omega
                    · have HB := Lib.hid (show Item.bytes ⟨kk, n, u, s⟩ = [] by unfold Item.bytes; rw [if_neg k0, if_neg k1, if_neg k3, if_neg k4, if_neg k5])
                      have e0 : (kk == 0) = false := by simpa using k0
                      have e1 : (kk == 1) = false := by simpa using k1
                      have e3 : (kk == 3) = false := by simpa using k3
                      have e4 : (kk == 4) = false := by simpa using k4
                      have e5 : (kk == 5) = false := by simpa using k5
                      clear k0 k1 k3 k4 k5
                      have hBw := hB.alloc hB.size (.cells #[.int .i64 kk, .int .i64 n, .int .u64 u, .string s] 42)
                      have hRw := Blk.alloc hR (.cells #[.int .i64 kk, .int .i64 n, .int .u64 u, .string s] 42)
                      go_wp2_with fail
                      go_roundw
                      case rel => exact ⟨k + 1, by omega, by go_num, by rw [HN.out, HB.out, List.append_nil]; exact hRw, hBw⟩
                      case measure => simp [intOf]; omega
          · have hk9 : k = xs.length := by omega
            subst hk9
            rw [List.take_length, HLL.out] at hR
            have hsz : SL.size = L.length := by rw [← HSL.out, str_size]
            have hzz := HZ.out
            rw [← hsz] at hR
            have HE : Hid (endOf S ((SL.size : Nat) : Int) 0 = if 0 < bh.size then 5 else 0) := by
              show endOf S ((SL.size : Nat) : Int) 0 = _
              unfold endOf
              rw [if_neg (by omega)]
              by_cases h : 0 < bh.size
              · rw [if_pos (by omega), if_pos h]
              · rw [if_neg (by omega), if_neg h]
            clear hsz hlt hk
            have HZZ := Lib.hid hzz
            have hle : SL.size ≤ S.size := by omega
            clear hzz
            obtain ⟨c0, c1, c2⟩ := hR.three
            by_cases hbp : 0 < bh.size
            · rw [if_pos hbp] at HE
              go_wp2_with fail
              refine (At_any S SL.size _).mono ?_
              rintro e w7 ⟨rfl, hb7⟩
              have hR7 : Rd w7 r S (SL.size : Nat) 0 := Blk.below hR hb7 hR.lt
              have hB7 := hB.trans (hb7.mono hB.size)
              clear c0 c1 c2 hb7 hR hB
              go_wp2_with fail
              refine (End_any r S SL.size 0 _ (by omega) hle hR7).mono ?_
              rintro e w8 ⟨rfl, hb8⟩
              rw [HE.out]
              have hB8 := hB7.trans (hb8.mono hB7.size)
              go_wp2_with fail
              go_ret
              exact ⟨rfl, hB8⟩
            · rw [if_neg hbp] at HE
              go_wp2_with fail
              refine (At_any S SL.size _).mono ?_
              rintro e w7 ⟨rfl, hb7⟩
              have hR7 : Rd w7 r S (SL.size : Nat) 0 := Blk.below hR hb7 hR.lt
              have hB7 := hB.trans (hb7.mono hB.size)
              clear c0 c1 c2 hb7 hR hB
              go_wp2_with fail
              refine (End_any r S SL.size 0 _ (by omega) hle hR7).mono ?_
              rintro e w8 ⟨rfl, hb8⟩
              rw [HE.out]
              have hB8 := hB7.trans (hb8.mono hB7.size)
              go_wp2_with fail
              go_ret
              exact ⟨rfl, hB8⟩
  · have hf2 : fewB xs = false := by simpa using hf
    rw [hf2] at HF
    clear hf hf2
    go_enter Try.func5, Try.ntmps5
    go_wp2_with (go_at_call 8; refine (works_any _).mono ?_; rintro e w1 ⟨rfl, hb1⟩)
    refine (HF.out _ hb1).mono ?_
    rintro e w2 ⟨rfl, rfl⟩
    go_wp2_with fail
    go_ret
    exact ⟨rfl, hb1⟩

end Go.Proofs.Ytelljahjkfoleaa.Wire
