/-
  The law of layer 5 on what is joined, walked.
-/
import Derived.Test.YtelljahjkfoleaaWireLawW
namespace Go.Proofs.Ytelljahjkfoleaa.Wire
open Go.RowKit Leb Mem

attribute [local go_sem ↓] Go.wp_at_zero Go.wp_at_succ

theorem Items.get {w : World} {B : Nat} {ad : Addr} {xs : List Item} {k : Nat} {x : Item} (h : Items w B (some ad) xs) (hx : xs[k]? = some x) :
    w.cell? (ad.add (k * 4)) = some (.int .i64 x.k) ∧ w.cell? ⟨(ad.add (k * 4)).block, (ad.add (k * 4)).off + 1, none⟩ = some (.int .i64 x.n) ∧ w.cell? ⟨(ad.add (k * 4)).block, (ad.add (k * 4)).off + 2, none⟩ = some (.int .u64 x.u) ∧ w.cell? ⟨(ad.add (k * 4)).block, (ad.add (k * 4)).off + 3, none⟩ = some (.string x.s) := by
  obtain ⟨ad', e, -, -, r⟩ := h k x hx
  cases e
  exact r

/-- Two writers share nothing. -/
def Apart (a : Nat) (R : Option Nat) (c : Nat) (Q : Option Nat) : Prop := ∀ k, Its a R k → ¬ Its c Q k
theorem Apart.symm {a c : Nat} {R Q : Option Nat} (h : Apart a R c Q) : Apart c Q a R := fun k h1 h2 => h k h2 h1
/-- One of two writes. -/
theorem step2 {w0 w w' : World} {a c : Nat} {R Q : Option Nat} {la lc m : List UInt8} {e : Ending} (ha : Ours w0 w a R la) (hc : Ours w0 w c Q lc) (hap : Apart a R c Q) (hE : WrEnds a R m w e w') :
    e = .returned (.pointer (some ⟨a, 0, none⟩)) ∧ ∃ R', Ours w0 w' a R' m ∧ Ours w0 w' c Q lc ∧ Apart a R' c Q ∧ ∀ k, R' = some k → R = some k ∨ w.heap.size ≤ k := by
  obtain ⟨he, hk, R', hw, hr⟩ := hE
  have hb := Kept.fresh ha.below hk ha.below.size ha.its
  refine ⟨he, R', ⟨hw, hb, ha.lo, fun k q => (hr k q).elim (ha.row k) (Nat.le_trans ha.below.size)⟩, ⟨hc.wr.kept hk (fun e => hap c e (.inl rfl)) (fun i hi e => hap i e (.inr hi)), hb, hc.lo, hc.row⟩, ?_, hr⟩
  rintro k (rfl | q) h2
  · exact hap k (.inl rfl) h2
  · rcases hr k q with q | q
    · exact hap k (.inr q) h2
    · have := hc.wr.its_lt k h2; omega
/-- A third one. -/
theorem step3 {w0 w w' : World} {a b : Nat} {R Q R' : Option Nat} {la lb m : List UInt8} {e : Ending} (ha : Ours w0 w a R la) (hb : Ours w0 w b Q lb) (hap : Apart a R b Q) (hE : WrEnds a R m w e w') (hr : ∀ k, R' = some k → R = some k ∨ w.heap.size ≤ k) :
    Ours w0 w' b Q lb ∧ Apart a R' b Q := by
  obtain ⟨he, hk, -⟩ := hE
  have hbl := Kept.fresh ha.below hk ha.below.size ha.its
  refine ⟨⟨hb.wr.kept hk (fun e => hap b e (.inl rfl)) (fun i hi e => hap i e (.inr hi)), hbl, hb.lo, hb.row⟩, ?_⟩
  rintro k (rfl | q) h2
  · exact hap k (.inl rfl) h2
  · rcases hr k q with q | q
    · exact hap k (.inr q) h2
    · have := hb.wr.its_lt k h2; omega

/-- Three writers. -/
structure Three (w0 w : World) (a b c : Nat) (la lb lc : List UInt8) (Ra Rb Rc : Option Nat) : Prop where
  A : Ours w0 w a Ra la
  B : Ours w0 w b Rb lb
  C : Ours w0 w c Rc lc
  ab : Apart a Ra b Rb
  ac : Apart a Ra c Rc
  bc : Apart b Rb c Rc

section
variable {w0 w w' : World} {a b c : Nat} {la lb lc m : List UInt8} {Ra Rb Rc : Option Nat} {e : Ending}
theorem Three.stepA (h : Three w0 w a b c la lb lc Ra Rb Rc) (hE : WrEnds a Ra m w e w') : e = .returned (.pointer (some ⟨a, 0, none⟩)) ∧ ∃ R, Three w0 w' a b c m lb lc R Rb Rc := by
  obtain ⟨he, R, h1, h2, h3, hr⟩ := step2 h.A h.C h.ac hE
  obtain ⟨h4, h5⟩ := step3 h.A h.B h.ab hE hr
  exact ⟨he, R, h1, h4, h2, h5, h3, h.bc⟩
theorem Three.stepB (h : Three w0 w a b c la lb lc Ra Rb Rc) (hE : WrEnds b Rb m w e w') : e = .returned (.pointer (some ⟨b, 0, none⟩)) ∧ ∃ R, Three w0 w' a b c la m lc Ra R Rc := by
  obtain ⟨he, R, h1, h2, h3, hr⟩ := step2 h.B h.C h.bc hE
  obtain ⟨h4, h5⟩ := step3 h.B h.A h.ab.symm hE hr
  exact ⟨he, R, h4, h1, h2, h5.symm, h.ac, h3⟩
theorem Three.stepC (h : Three w0 w a b c la lb lc Ra Rb Rc) (hE : WrEnds c Rc m w e w') : e = .returned (.pointer (some ⟨c, 0, none⟩)) ∧ ∃ R, Three w0 w' a b c la lb m Ra Rb R := by
  obtain ⟨he, R, h1, h2, h3, hr⟩ := step2 h.C h.B h.bc.symm hE
  obtain ⟨h4, h5⟩ := step3 h.C h.A h.ac.symm hE hr
  exact ⟨he, R, h4, h2, h1, h.ab, h5.symm, h3.symm⟩
theorem Three.more (h : Three w0 w a b c la lb lc Ra Rb Rc) (hb : Below w.heap.size w w') : Three w0 w' a b c la lb lc Ra Rb Rc :=
  ⟨h.A.more hb, h.B.more hb, h.C.more hb, h.ab, h.ac, h.bc⟩
end

theorem apart_new {a b : Nat} (h : a ≠ b) : Apart a none b none := by
  rintro k (rfl | q) (q2 | q2)
  · exact h q2
  · cases q2
  · cases q
  · cases q

set_option maxRecDepth 100000 in
set_option maxHeartbeats 2000000 in
theorem wireJoins_walk (A1 : Option Addr) (c1 : Nat) (xs : List Item) (hlen1 : xs.length ≤ maxLen) (A2 : Option Addr) (c2 : Nat) (ys : List Item) (hlen2 : ys.length ≤ maxLen) (w : World) (hx : Items w w.heap.size A1 xs) (hy : Items w w.heap.size A2 ys) :
    Calls Try.prog 7 #[.slice A1 xs.length c1, .slice A2 ys.length c2] w fun e w' => e = .returned (.bool true) ∧ Below w.heap.size w w' := by
  have HF1 := Lib.hid (fun W (hb : Below w.heap.size w W) => few_any A1 c1 xs W (hx.at hb) hlen1)
  have HF2 := Lib.hid (fun W (hb : Below w.heap.size w W) => few_any A2 c2 ys W (hy.at hb) hlen2)
  unfold maxLen at hlen1 hlen2
  have hok1 := hx.ok
  have hok2 := hy.ok
  have HX := Lib.hid hx
  have HY := Lib.hid hy
  clear hx hy
  by_cases hf : fewB xs = true ∧ fewB ys = true
  · obtain ⟨hf1, hf2⟩ := hf
    rw [hf1] at HF1
    rw [hf2] at HF2
    have h60 : xs.length ≤ 60 := by unfold fewB at hf1; exact (of_decide_eq_true hf1).1
    have h61 : ys.length ≤ 60 := by unfold fewB at hf2; exact (of_decide_eq_true hf2).1
    have HS1 := Lib.hid (few_size xs hf1)
    have HS2 := Lib.hid (few_size ys hf2)
    have HL1 := Lib.hid (few_len xs hok1 hf1)
    have HL2 := Lib.hid (few_len ys hok2 hf2)
    clear hok1 hok2 hf1 hf2
    go_enter Try.func7, Try.ntmps7
    go_wp2_with (go_at_call 8; refine (works_any _).mono ?_; rintro e w1 ⟨rfl, hb1⟩)
    refine (HF1.out _ hb1).mono ?_
    rintro e w2 ⟨rfl, rfl⟩
    go_wp2_with fail
    refine (HF2.out _ hb1).mono ?_
    rintro e w2 ⟨rfl, rfl⟩
    clear HF1 HF2
    go_wp2_with fail
    refine (New_any _).mono ?_
    rintro e w3 ⟨rfl, hW3, hb3⟩
    have h3 : Ours w w3 w1.heap.size none [] := ⟨hW3, hb1.trans (hb3.mono hb1.size), hb1.size, fun k h => by cases h⟩
    obtain ⟨a, ha⟩ : ∃ a, w1.heap.size = a := ⟨_, rfl⟩
    rw [ha] at h3 ⊢
    clear ha hW3 hb3 hb1
    go_wp2_with fail
    refine (New_any _).mono ?_
    rintro e w4 ⟨rfl, hW4, hb4⟩
    have h4 : Ours w w4 w3.heap.size none [] := ⟨hW4, h3.below.trans (hb4.mono h3.below.size), h3.below.size, fun k h => by cases h⟩
    have h43 := h3.more hb4
    have hab : a < w3.heap.size := h3.wr.lt
    obtain ⟨b, hb⟩ : ∃ b, w3.heap.size = b := ⟨_, rfl⟩
    rw [hb] at h4 hab ⊢
    clear hb hW4 hb4 h3
    go_wp2_with fail
    refine (New_any _).mono ?_
    rintro e w5 ⟨rfl, hW5, hb5⟩
    have h5 : Ours w w5 w4.heap.size none [] := ⟨hW5, h4.below.trans (hb5.mono h4.below.size), h4.below.size, fun k h => by cases h⟩
    have hbc : b < w4.heap.size := h4.wr.lt
    obtain ⟨c, hc⟩ : ∃ c, w4.heap.size = c := ⟨_, rfl⟩
    have hT : Three w w5 a b w4.heap.size [] [] [] none none none := ⟨h43.more hb5, h4.more hb5, h5, apart_new (by omega), apart_new (by omega), apart_new (by omega)⟩
    rw [hc] at hT ⊢
    clear hc hW5 hb5 h4 h43 h5 hab hbc
    go_wp2_with fail
    go_loopw [6, 8, 9] (fun p q i wr => ∃ k : Nat, k ≤ xs.length ∧ i = .int .i64 k ∧ p = .pointer (some ⟨a, 0, none⟩) ∧ q = .pointer (some ⟨c, 0, none⟩) ∧ ∃ Ra Rb Rc, Three w wr a b c (bytesOf (xs.take k)) [] (bytesOf (xs.take k)) Ra Rb Rc) (fun _ _ i _ => xs.length - (intOf i).toNat)
    case atStart => exact ⟨0, by omega, rfl, rfl, rfl, none, none, none, hT⟩
    case round =>
      clear hT
      obtain ⟨k, hk, rfl, rfl, rfl, Ra, Rb, Rc, hT⟩ := hrel
      have hl := HL1.out k
      by_cases hlt : k < xs.length
      · obtain ⟨x, hxk⟩ : ∃ x, xs[k]? = some x := ⟨_, List.getElem?_eq_getElem hlt⟩
        obtain ⟨ad, rfl, hb, ok, h0, h1, h2, h3⟩ := (HX.out.below hT.A.below) k x hxk
        have HN := Lib.hid (bytesOf_take xs k x hxk)
        have hs1 := HS1.out k x hxk
        have HK := Lib.hid hxk
        clear hxk
        have HP := Lib.hid (put_any a Ra (bytesOf (xs.take k)) x wr hT.A.wr ok (by omega))
        have HQ := Lib.hid (fun W h => put_any c Rc (bytesOf (xs.take k)) x W h ok (by omega))
        clear ok
        go_wp2_with fail
        refine (HP.out).mono ?_
        intro e w6 hq
        obtain ⟨rfl, R2, hT2⟩ := hT.stepA hq
        obtain ⟨g0, g1, g2, g3⟩ := (HX.out.below hT2.A.below).get HK.out
        clear hq h0 h1 h2 h3
        go_wp2_with fail
        refine (HQ.out _ hT2.C.wr).mono ?_
        intro e w7 hq
        obtain ⟨rfl, R3, hT3⟩ := hT2.stepC hq
        rw [← HN.out] at hT3
        clear hq g0 g1 g2 g3
        go_wp2_with fail
        go_roundw
        case rel => exact ⟨k + 1, by omega, by go_num, rfl, rfl, R2, Rb, R3, hT3⟩
        case measure => simp [intOf]; omega
      · have hk9 : k = xs.length := by omega
        subst hk9
        rw [List.take_length] at hT
        have hlx := HL1.out xs.length
        rw [List.take_length] at hlx
        obtain ⟨lx, hx⟩ : ∃ l, bytesOf xs = l := ⟨_, rfl⟩
        rw [hx] at hT hlx
        have HBX := Lib.hid hx
        clear hx hl hlt hk
        go_wp2_with fail
        go_loopw [7, 8, 10] (fun p q i wr => ∃ k : Nat, k ≤ ys.length ∧ i = .int .i64 k ∧ p = .pointer (some ⟨b, 0, none⟩) ∧ q = .pointer (some ⟨c, 0, none⟩) ∧ ∃ Ra Rb Rc, Three w wr a b c lx (bytesOf (ys.take k)) (lx ++ bytesOf (ys.take k)) Ra Rb Rc) (fun _ _ i _ => ys.length - (intOf i).toNat)
        case atStart => exact ⟨0, by omega, rfl, rfl, rfl, Ra, Rb, Rc, by simpa [bytesOf] using hT⟩
        case round =>
          clear hT
          obtain ⟨k, hk, rfl, rfl, rfl, Ra, Rb, Rc, hT⟩ := hrel
          have hl := HL2.out k
          by_cases hlt : k < ys.length
          · obtain ⟨y, hyk⟩ : ∃ y, ys[k]? = some y := ⟨_, List.getElem?_eq_getElem hlt⟩
            obtain ⟨ad, rfl, hb, ok, h0, h1, h2, h3⟩ := (HY.out.below hT.B.below) k y hyk
            have HN := Lib.hid (bytesOf_take ys k y hyk)
            have hs1 := HS2.out k y hyk
            have HK := Lib.hid hyk
            clear hyk
            have HP := Lib.hid (put_any b Rb (bytesOf (ys.take k)) y _ hT.B.wr ok (by omega))
            have HQ := Lib.hid (fun W h => put_any c Rc (lx ++ bytesOf (ys.take k)) y W h ok (by rw [List.length_append]; omega))
            clear ok
            go_wp2_with fail
            refine (HP.out).mono ?_
            intro e w6 hq
            obtain ⟨rfl, R2, hT2⟩ := hT.stepB hq
            obtain ⟨g0, g1, g2, g3⟩ := (HY.out.below hT2.A.below).get HK.out
            clear hq h0 h1 h2 h3
            go_wp2_with fail
            refine (HQ.out _ hT2.C.wr).mono ?_
            intro e w7 hq
            obtain ⟨rfl, R3, hT3⟩ := hT2.stepC hq
            rw [List.append_assoc, ← HN.out] at hT3
            clear hq g0 g1 g2 g3
            go_wp2_with fail
            go_roundw
            case rel => exact ⟨k + 1, by omega, by go_num, rfl, rfl, Ra, R2, R3, hT3⟩
            case measure => simp [intOf]; omega
          · have hk9 : k = ys.length := by omega
            subst hk9
            rw [List.take_length] at hT
            have hly := HL2.out ys.length
            rw [List.take_length] at hly
            obtain ⟨ly, hy⟩ : ∃ l, bytesOf ys = l := ⟨_, rfl⟩
            rw [hy] at hT hly
            clear hy hl hlt hk
            have z1 : (⟨lx.toArray⟩ : ByteArray).size ≤ 1600 := by rw [str_size]; exact hlx
            have z2 : (⟨ly.toArray⟩ : ByteArray).size ≤ 1600 := by rw [str_size]; exact hly
            go_wp2_with fail
            refine (Bytes_any a Ra lx _ hT.A.wr).mono ?_
            rintro e w8 ⟨rfl, rfl⟩
            go_wp2_with fail
            refine (Bytes_any b Rb ly _ hT.B.wr).mono ?_
            rintro e w8 ⟨rfl, rfl⟩
            go_wp2_with fail
            refine (Bytes_any c Rc (lx ++ ly) _ hT.C.wr).mono ?_
            rintro e w8 ⟨rfl, rfl⟩
            rw [← str_app]
            go_wp2_with fail
            refine (New_any _).mono ?_
            rintro e w9 ⟨rfl, hW9, hb9⟩
            have hD := (⟨hW9, hT.A.below.trans (hb9.mono hT.A.below.size), hT.A.below.size, fun k h => by cases h⟩ : Ours w w9 _ none [])
            have hT9 := hT.more hb9
            have hda := apart_new (a := a) (b := wr.heap.size) (by have := hT.A.wr.lt; omega)
            have hAd : ∀ k, Its a Ra k → k ≠ wr.heap.size := fun k h e => by have := hT.A.wr.its_lt k h; omega
            have hBd : ∀ k, Its b Rb k → k ≠ wr.heap.size := fun k h e => by have := hT.B.wr.its_lt k h; omega
            obtain ⟨d, hd⟩ : ∃ d, wr.heap.size = d := ⟨_, rfl⟩
            rw [hd] at hD hAd hBd ⊢
            clear hd hda hW9 hT hb9
            go_wp2_with fail
            refine (Bytes_any a Ra lx _ hT9.A.wr).mono ?_
            rintro e w10 ⟨rfl, rfl⟩
            go_wp2_with fail
            refine (Raw_any d none [] ⟨lx.toArray⟩ _ hD.wr (by simp; omega)).mono ?_
            intro e w11 hq
            obtain ⟨rfl, R11, hD11, hB11, -, -⟩ := step2 hD hT9.B (by
              rintro k (rfl | q) h2
              · exact hBd _ h2 rfl
              · cases q) hq
            clear hq
            go_wp2_with fail
            refine (Bytes_any b Rb ly _ hB11.wr).mono ?_
            rintro e w12 ⟨rfl, rfl⟩
            go_wp2_with fail
            refine (Raw_any d R11 _ ⟨ly.toArray⟩ _ hD11.wr (by simp; omega)).mono ?_
            intro e w13 hq
            obtain ⟨rfl, R13, hD13⟩ := hD11.step hq
            clear hq
            go_wp2_with fail
            refine (Bytes_any d R13 _ _ hD13.wr).mono ?_
            rintro e w14 ⟨rfl, rfl⟩
            rw [show ([] ++ (⟨lx.toArray⟩ : ByteArray).data.toList ++ (⟨ly.toArray⟩ : ByteArray).data.toList) = lx ++ ly by simp, ← str_app]
            go_wp2_with fail
            go_ret
            exact ⟨rfl, hD13.below⟩
  · by_cases hf1 : fewB xs = true
    · have hf2 : fewB ys = false := by
        cases h : fewB ys
        · rfl
        · exact absurd ⟨hf1, h⟩ hf
      rw [hf1] at HF1
      rw [hf2] at HF2
      clear hf hf1 hf2
      go_enter Try.func7, Try.ntmps7
      go_wp2_with (go_at_call 8; refine (works_any _).mono ?_; rintro e w1 ⟨rfl, hb1⟩)
      refine (HF1.out _ hb1).mono ?_
      rintro e w2 ⟨rfl, rfl⟩
      go_wp2_with fail
      refine (HF2.out _ hb1).mono ?_
      rintro e w2 ⟨rfl, rfl⟩
      go_wp2_with fail
      go_ret
      exact ⟨rfl, hb1⟩
    · have hf1 : fewB xs = false := by simpa using hf1
      rw [hf1] at HF1
      clear hf hf1
      go_enter Try.func7, Try.ntmps7
      go_wp2_with (go_at_call 8; refine (works_any _).mono ?_; rintro e w1 ⟨rfl, hb1⟩)
      refine (HF1.out _ hb1).mono ?_
      rintro e w2 ⟨rfl, rfl⟩
      go_wp2_with fail
      go_ret
      exact ⟨rfl, hb1⟩

end Go.Proofs.Ytelljahjkfoleaa.Wire
