/-
  Package container, walked: sections are sealed: what gives up, and the door that tells what it was.
-/
import Derived.Test.YtfjdbbhaigjbmaaGreatContEnd
import Derived.Test.YtfjdbbhaigjbmaaGreatFrameG
import Derived.Recover
import Derived.Laws.Pointers
namespace Go.Proofs.YtfjdbbhaigjbmaaGreat.Cont
open Go.RowKit Leb Mem _root_.Go.Proofs.YtfjdbbhaigjbmaaGreat.Frame

theorem seal_none (l : List Sec) (h : (sealC l).2 ≠ 0) : (sealC l).1 = [] := by
  unfold sealC at h ⊢
  split at h
  · rw [if_pos (by assumption)]
  · rw [if_neg (by assumption)]
    split at h
    · rw [if_pos (by assumption)]
    · exact absurd rfl h

/-- What seal comes to: the container, or it gives up. -/
def SealsOr (l : List Sec) (w : World) (e : Ending) (w' : World) : Prop :=
  Below w.heap.size w w' ∧ ((sealC l).2 = 0 → e = .returned (.string (str (sealC l).1))) ∧ ((sealC l).2 ≠ 0 → (sealC l).1 = [] ∧ e = .panicked (gone (sealC l).2))
theorem SealsOr.ok {l : List Sec} {w w' : World} {r : List UInt8} {s : ByteArray} (h : sealC l = (r, 0)) (hs : s = str r) (hb : Below w.heap.size w w') : SealsOr l w (.returned (.string s)) w' :=
  ⟨hb, fun _ => by rw [h, hs], fun hn => absurd (by rw [h]) hn⟩
theorem SealsOr.no {l : List Sec} {w w' : World} {c : Int} (h : sealC l = ([], c)) (hc : c ≠ 0) (hb : Below w.heap.size w w') : SealsOr l w (.panicked (gone c)) w' :=
  ⟨hb, fun hz => absurd (by rw [h] at hz; exact hz) hc, fun _ => ⟨by rw [h], by rw [h]⟩⟩
theorem SealsOr.to_ok {l : List Sec} {w w' : World} {e : Ending} {r : List UInt8} (h : SealsOr l w e w') (hl : sealC l = (r, 0)) : e = .returned (.string (str r)) ∧ Below w.heap.size w w' := by
  obtain ⟨hb, h1, -⟩ := h
  rw [hl] at h1
  exact ⟨h1 rfl, hb⟩
theorem SealsOr.to_no {l : List Sec} {w w' : World} {e : Ending} {r : List UInt8} {c : Int} (h : SealsOr l w e w') (hl : sealC l = (r, c)) (hc : c ≠ 0) : r = [] ∧ e = .panicked (gone c) ∧ Below w.heap.size w w' := by
  obtain ⟨hb, -, h1⟩ := h
  rw [hl] at h1
  exact ⟨(h1 hc).1, (h1 hc).2, hb⟩

set_option maxRecDepth 100000 in
set_option maxHeartbeats 2000000 in
theorem seal_any (A : Option Addr) (cap : Nat) (xs : List Sect) (w : World) (hx : Sects w w.heap.size A xs) (hl : Lim xs) :
    Calls Tryz.prog 16 #[.slice A xs.length cap] w (SealsOr (secs xs) w) := by
  obtain ⟨hl1, hl2⟩ := id hl
  have HO := Lib.hid (p_ordered_any A cap xs w hx (by unfold maxLen; omega))
  have HX := Lib.hid hx
  have HL := Lib.hid hl
  clear hx
  by_cases ho : ord (secs xs) = false
  · have HE := Lib.hid (show sealC (secs xs) = ([], 20) by unfold sealC; rw [if_pos ho])
    rw [ho] at HO
    go_enter Tryz.func16, Tryz.ntmps16
    go_wp2_with (first
      | (go_at_call 33; with_reducible refine HO.out.mono ?_; rintro e w1 ⟨rfl, hb1⟩)
      | (go_at_call 32; with_reducible refine (must_false 20 _).mono ?_; rintro e w2 ⟨rfl, rfl⟩))
    exact ⟨rfl, SealsOr.no HE.out (by decide) hb1⟩
  have ho' : ord (secs xs) = true := by simpa using ho
  have hcount := ord_pos ho'
  rw [secs_len] at hcount
  rw [ho'] at HO
  have hbl := body_lim HL.out xs.length
  rw [List.take_length] at hbl
  have hil := index_lim hl
  have hel := behind_len (secs xs)
  have HEN := Lib.hid (fun W hW => ending_any A cap xs W hW HL.out)
  have HBG := Lib.hid (fun W hW => begin_any A cap xs W hW HL.out)
  have HD := Lib.hid (show behind (secs xs) = index (secs xs) ++ Crc.tail (index (secs xs)) ++ foot (7 + (body (secs xs)).length) from rfl)
  generalize behind (secs xs) = D at *
  obtain ⟨E, hE⟩ : ∃ E, str D = E := ⟨_, rfl⟩
  have hEs : E.size = D.length := by rw [← hE, str_size]
  have hEl : E.data.toList = D := by rw [← hE, str_list]
  rw [hE] at HEN
  have g1 : IntKind.i64.wrap (((7 + (body (secs xs)).length : Nat) : Int) + (E.size : Int)) = ((7 + (body (secs xs)).length : Nat) : Int) + (E.size : Int) := IntWalk.i64_in _ (by omega)
  by_cases hbig : 1048576 < 7 + (body (secs xs)).length + (index (secs xs)).length + 12
  · have HE := Lib.hid (show sealC (secs xs) = ([], 4) by unfold sealC; rw [if_neg ho, if_pos hbig])
    have n1 : decide (((7 + (body (secs xs)).length : Nat) : Int) + (E.size : Int) ≤ 1048576) = false := decide_eq_false (by omega)
    clear hE hEs hEl hel hil hbl ho ho' hbig
    generalize ((7 + (body (secs xs)).length : Nat) : Int) = Q at *
    go_enter Tryz.func16, Tryz.ntmps16
    go_wp2_with (first
      | (go_at_call 33; with_reducible refine HO.out.mono ?_; rintro e w1 ⟨rfl, hb1⟩)
      | (go_at_call 34; with_reducible refine (HEN.out _ (Sects.at HX.out hb1)).mono ?_; rintro e w3 ⟨rfl, hb3⟩)
      | (go_at_call 35; with_reducible refine (HBG.out _ (Sects.at (Sects.at HX.out hb1) hb3)).mono ?_; rintro e w4 ⟨rfl, hb4⟩)
      | (go_at_call 32; with_reducible refine (must_true 20 _).mono ?_; rintro e w2 ⟨rfl, rfl⟩)
      | (go_at_call 32; with_reducible refine (must_false 4 _).mono ?_; rintro e w5 ⟨rfl, rfl⟩))
    exact ⟨rfl, SealsOr.no HE.out (by decide) (below2 (below2 hb1 hb3) hb4)⟩
  have HE := Lib.hid (show sealC (secs xs) = (magic ++ body (secs xs) ++ D, 0) by unfold sealC; rw [if_neg ho, if_neg hbig, HD.out]; simp only [List.append_assoc])
  have n1 : decide (((7 + (body (secs xs)).length : Nat) : Int) + (E.size : Int) ≤ 1048576) = true := decide_eq_true (by omega)
  have hbb : (body (secs xs)).length ≤ 1048576 := by omega
  have hdd : D.length ≤ 1048576 := by omega
  have HOT := Lib.hid (ord_types ho')
  have HR1 := Lib.hid (fun (g : Nat) (W Y : World) (h : Wire.Wb g none W [] Y) => h.raw (str magic) (by rw [str_size, magic_len]; simp))
  have HR2 := Lib.hid (fun (g : Nat) (W Y : World) (h : Wire.Wb g none W (magic ++ body (secs xs)) Y) => h.raw E (by rw [List.length_append, magic_len]; omega))
  rw [List.nil_append, str_list] at HR1
  change Hid (∀ (g : Nat) (W Y : World), _ → Calls _ _ #[_, .string ⟨#[77, 85, 84, 65, 82, 67, 1]⟩] _ _) at HR1
  rw [hEl] at HR2
  have HBY := Lib.hid (fun (g : Nat) (W Y : World) (h : Wire.Wb g none W (magic ++ body (secs xs) ++ D) Y) => h.bytes)
  have HQ := Lib.hid (show ∀ k, (body (secs (xs.take k))).length ≤ (body (secs xs)).length from fun k => by rw [secs_take_eq]; exact body_take_le _ _)
  clear hE hEs hEl hel hil hbl ho ho' hbig
  generalize ((7 + (body (secs xs)).length : Nat) : Int) = Q at *
  go_enter Tryz.func16, Tryz.ntmps16
  go_wp2_with (first
    | (go_at_call 33; with_reducible refine HO.out.mono ?_; rintro e w1 ⟨rfl, hb1⟩)
    | (go_at_call 34; with_reducible refine (HEN.out _ (Sects.at HX.out hb1)).mono ?_; rintro e w3 ⟨rfl, hb3⟩)
    | (go_at_call 35; with_reducible refine (HBG.out _ (Sects.at (Sects.at HX.out hb1) hb3)).mono ?_; rintro e w4 ⟨rfl, hb4⟩)
    | (go_at_call 32; with_reducible refine (must_true 20 _).mono ?_; rintro e w2 ⟨rfl, rfl⟩)
    | (go_at_call 32; with_reducible refine (must_true 4 _).mono ?_; rintro e w5 ⟨rfl, rfl⟩)
    | (go_at_call 22; with_reducible refine (Wire.New_any _).mono ?_; rintro e w6 ⟨rfl, hW6, hb6⟩)
    | (go_at_call 36; with_reducible refine (HR1.out _ _ _ (Wire.Wb.start hW6)).mono ?_; rintro e w7 ⟨rfl, hWb7⟩))
  have hB4 := below2 (below2 hb1 hb3) hb4
  have hB6 : Below w.heap.size w w6 := hB4.trans (hb6.mono hB4.size)
  have hg4 : w.heap.size ≤ w4.heap.size := hB4.size
  have hBW : ∀ (l : List UInt8) (W : World), Wire.Wb w4.heap.size none w6 l W → Below w.heap.size w W := fun l W h => hB6.trans (h.to_below hB6.size hg4 (fun k e => by cases e))
  have HBW := Lib.hid hBW
  clear HO HEN HBG HR1 hW6 hb1 hb3 hb4 hb6 hBW hB4 g1 n1
  go_loopw [25] (fun i wr => ∃ k : Nat, k ≤ xs.length ∧ i = .int .i64 k ∧ Wire.Wb w4.heap.size none w6 (magic ++ body (secs (xs.take k))) wr) (fun i _ => xs.length - (intOf i).toNat)
  case atStart => exact ⟨0, by omega, rfl, by simpa [secs, body] using hWb7⟩
  case round =>
    obtain ⟨k, hk, rfl, hWb⟩ := hrel
    have hB := HBW.out _ _ hWb
    by_cases hlt : k < xs.length
    · obtain ⟨x, hxk⟩ : ∃ x, xs[k]? = some x := ⟨_, List.getElem?_eq_getElem hlt⟩
      obtain ⟨ad, rfl, hbk, hs1, h0, h1⟩ := (Sects.below HX.out hB) k x hxk
      have hm := HOT.out _ (secs_mem hxk)
      have hbm := body_mem (secs_mem hxk)
      simp only at hm hbm
      rw [len_of] at hbm
      have hst : magic ++ body (secs (xs.take k)) ++ fput x.t x.d.data.toList = magic ++ body (secs (xs.take (k + 1))) := by
        rw [secs_take xs k x hxk, body_append]; simp [body, List.append_assoc]
      have hz0 := HQ.out k
      have hz1 : (str (fput x.t x.d.data.toList)).size ≤ 1048600 := by
        rw [str_size]; have := size_le (x := (x.t, x.d.data.toList)) (by rw [len_of]; omega); unfold size at this; simp only at this; rw [len_of] at this; omega
      have HP := Lib.hid (fun W => (Put_any x.t x.d (by omega) W).mono (fun e w' h => h.to (fPut_ok (x := (x.t, x.d.data.toList)) hm.1 hm.2 (by rw [len_of]; omega))))
      simp only at HP
      have hr := fun W (h : Wire.Wb w4.heap.size none w6 (magic ++ body (secs (xs.take k))) W) => h.raw (str (fput x.t x.d.data.toList)) (by rw [List.length_append, magic_len]; omega)
      rw [str_list, hst] at hr
      have HR := Lib.hid hr
      clear hst hm hbm hxk hr hz0 hz1
      generalize str (fput x.t x.d.data.toList) = P at *
      have hWa := hWb.below ((Below.refl _ _).alloc (Nat.le_refl _) (.cells #[.int .i64 x.t, .string x.d] 34))
      go_wp2_with (first
        | (go_at_call 37; (with_reducible refine (HP.out _).mono ?_); rintro e w8 ⟨rfl, hb8⟩; have hWc := hWa.below hb8)
        | (go_at_call 36; with_reducible refine (HR.out _ hWc).mono ?_; rintro e w9 ⟨rfl, hWb9⟩))
      go_roundw
      case rel => exact ⟨k + 1, by omega, by go_num, hWb9⟩
      case measure => simp [intOf]; omega
    · have hk9 : k = xs.length := by omega
      subst hk9
      rw [List.take_length] at hWb
      go_wp2_with (first
        | (go_at_call 36; with_reducible refine (HR2.out _ _ _ hWb).mono ?_; rintro e w8 ⟨rfl, hWb8⟩)
        | (go_at_call 26; with_reducible refine (HBY.out _ _ _ hWb8).mono ?_; rintro e w9 ⟨rfl, rfl⟩))
      go_ret
      exact SealsOr.ok HE.out (by simp only [List.append_assoc]; rfl) (HBW.out _ _ hWb8)

/-! ### The door -/
set_option maxRecDepth 100000 in
theorem told_nil (w : World) : Calls Tryz.prog 15 #[.nilIface] w fun e w' => e = .returned (.int .i64 0) ∧ w = w' := by
  go_enter Tryz.func15, Tryz.ntmps15
  go_wp2
  go_ret
  exact ⟨rfl, rfl⟩
set_option maxRecDepth 100000 in
theorem told_wrong (c : Int) (w : World) : Calls Tryz.prog 15 #[.iface 53 (.int .i64 c)] w fun e w' => e = .returned (.int .i64 c) ∧ w = w' := by
  have hta : ∀ W, (Instr.typeAssert (.iface 53 (.int .i64 c)) 20 53 true).run Tryz.prog W = .ok (.tuple #[.int .i64 c, .bool true]) W := fun W => by kernel_rfl
  go_enter Tryz.func15, Tryz.ntmps15
  go_wp2
  go_ret
  exact ⟨rfl, rfl⟩

set_option maxRecDepth 100000 in
theorem catch_gone (p : Addr) (x c : Int) (w : World) (hc : w.cell? p = some (.int .i64 x)) (hz : w.frozen? p = false) :
    CallsD Tryz.prog 14 #[.pointer (some p)] (.panicking (gone c)) w fun e u' w' =>
      e = .returned (.tuple #[]) ∧ u' = .panicking [{ v := .iface 53 (.int .i64 c), recovered := true }] ∧ w' = w.setCell p (.int .i64 c) := by
  refine callsD_of_wpS Tryz.func14 rfl fun c₀ cs hu => ?_
  unfold gone at hu
  apply wpS_region
  simp [wpOpsS, go_sem, recoverD, hu, Tryz.ntmps14]
  refine (told_wrong c w).mono ?_
  rintro e w1 ⟨rfl, rfl⟩
  simp [go_sem, hc, hz, bodyPostS, results, Tryz.results14, Oper.upon]

set_option maxRecDepth 100000 in
theorem catch_idle (p : Addr) (x : Int) (w : World) (hc : w.cell? p = some (.int .i64 x)) (hz : w.frozen? p = false) :
    CallsD Tryz.prog 14 #[.pointer (some p)] .returning w fun e u' w' => e = .returned (.tuple #[]) ∧ u' = .returning ∧ w' = w.setCell p (.int .i64 0) := by
  refine callsD_of_wpS Tryz.func14 rfl fun c₀ cs hu => ?_
  apply wpS_region
  simp [wpOpsS, go_sem, recoverD, hu, Tryz.ntmps14]
  refine (told_nil w).mono ?_
  rintro e w1 ⟨rfl, rfl⟩
  cases c₀
  simp_all [go_sem, bodyPostS, results, Tryz.results14, Oper.upon]

set_option maxRecDepth 100000 in
set_option maxHeartbeats 2000000 in
theorem Seal_any (A : Option Addr) (cap : Nat) (xs : List Sect) (w : World) (hx : Sects w w.heap.size A xs) (hl : Lim xs) :
    Calls Tryz.prog 7 #[.slice A xs.length cap] w (SealEnds (secs xs) w) := by
  have hmf : ∀ (fn : Fn) (first cap : Array Value) (w : World), (Instr.makeFunc fn first cap).run Tryz.prog w = .ok (.func fn first cap) w := fun _ _ _ _ => rfl
  have hB0 : Below w.heap.size w (w.alloc (.cells #[.int .i64 0] 25)) := (Below.refl _ _).alloc (Nat.le_refl _) _
  have HS := Lib.hid (seal_any A cap xs _ (Sects.at hx hB0) hl)
  have bE := Blk.new w 25 #[.int .i64 0]
  obtain ⟨⟨r, c⟩, hrc⟩ : ∃ p, sealC (secs xs) = p := ⟨_, rfl⟩
  by_cases hc : c = 0
  · subst hc
    have HS1 := Lib.hid (HS.out.mono (fun _ _ h => h.to_ok hrc))
    have HRC := Lib.hid hrc
    clear hrc HS
    go_enter_defers Tryz.func7, Tryz.ntmps7
    go_wp2_with (go_at_call 16; with_reducible refine HS1.out.mono ?_; rintro e w1 ⟨rfl, hb1⟩; have bE1 := bE.below hb1 bE.lt; have cE := bE1.cell 0; have fE := bE1.frozen 0)
    have bE2 := bE1.set 0 (.int .i64 0)
    have hB1 : Below w.heap.size w w1 := hB0.trans (hb1.mono hB0.size)
    refine leaves_cons (f := 14) (args := #[.pointer (some ⟨w.heap.size, 0, none⟩)]) (by simp) (by simp [go_sem]) ?_
    refine (catch_idle ⟨w.heap.size, 0, none⟩ 0 _ (bE2.cell 0) (bE2.frozen 0)).mono ?_
    rintro e u' w'' ⟨rfl, rfl, rfl⟩
    have cE3 := (bE2.set 0 (.int .i64 0)).cell 0
    have hB3 := ((hB1.setCell (p := ⟨w.heap.size, 0, none⟩) (Nat.le_refl _) (.int .i64 0)).setCell (p := ⟨w.heap.size, 0, none⟩) (Nat.le_refl _) (.int .i64 0))
    generalize (w1.setCell ⟨w.heap.size, 0, none⟩ (.int .i64 0)).setCell ⟨w.heap.size, 0, none⟩ (.int .i64 0) = W at *
    have cE4 : W.cell? ⟨w.heap.size, 0, none⟩ = some (.int .i64 0) := cE3
    refine ⟨.tuple #[.string (str r), .int .i64 0], ?_, SealEnds.mk HRC.out rfl hB3⟩
    simp [results, Tryz.results7, go_sem, cE4]
  · have hr := (HS.out.mono (fun _ _ h => h.to_no hrc hc))
    have hr0 : r = [] := by
      have := seal_none (secs xs) (by rw [hrc]; exact hc)
      rw [hrc] at this
      exact this
    · subst hr0
      have HS1 := Lib.hid (hr.mono (fun e w' h => h.2))
      have HRC := Lib.hid hrc
      clear hrc HS hr
      go_enter_defers Tryz.func7, Tryz.ntmps7
      go_wp2_with (go_at_call 16; with_reducible refine HS1.out.mono ?_; rintro e w1 ⟨rfl, hb1⟩; have bE1 := bE.below hb1 bE.lt)
      have hB1 : Below w.heap.size w w1 := hB0.trans (hb1.mono hB0.size)
      refine leaves_cons (f := 14) (args := #[.pointer (some ⟨w.heap.size, 0, none⟩)]) (by simp) (by simp [go_sem]) ?_
      refine (catch_gone ⟨w.heap.size, 0, none⟩ 0 c _ (bE1.cell 0) (bE1.frozen 0)).mono ?_
      rintro e u' w'' ⟨rfl, rfl, rfl⟩
      have cE3 := (bE1.set 0 (.int .i64 c)).cell 0
      have hB3 := (hB1.setCell (p := ⟨w.heap.size, 0, none⟩) (Nat.le_refl _) (.int .i64 c))
      generalize w1.setCell ⟨w.heap.size, 0, none⟩ (.int .i64 c) = W at *
      have cE4 : W.cell? ⟨w.heap.size, 0, none⟩ = some (.int .i64 c) := cE3
      refine ⟨.tuple #[.string ⟨#[]⟩, .int .i64 c], ?_, SealEnds.mk HRC.out rfl hB3⟩
      simp [results, Tryz.results7, go_sem, cE4]

end Go.Proofs.YtfjdbbhaigjbmaaGreat.Cont
