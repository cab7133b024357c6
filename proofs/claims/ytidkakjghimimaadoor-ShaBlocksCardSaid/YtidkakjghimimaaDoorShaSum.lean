/-
  The digest of a text, walked: by the program, block by block as an iterator tells them.
-/
import Derived.Great.BuildSlice
import Derived.Laws.EntriesVeiled
import Derived.Test.YtidkakjghimimaaDoorShaIter
import Derived.Test.YtidkakjghimimaaDoorShaBlockRef
namespace Go.Proofs.YtidkakjghimimaaDoor.Sha
open Go.RowKit Go.Shelf

attribute [local go_sem] Oper.semAt_some

theorem Start_any (w : World) : Calls Tryd.prog 18 #[] w fun e w' => e = .returned (.agg (u32s start)) ∧ Below w.heap.size w w' := by
  have hz := zero29
  go_enter Tryd.func18, Tryd.ntmps18
  go_upto_region 1 with (fail)
  have hR := Row.new w 29 (u32s z8)
  go_step
  refine wpList_buildTo rfl 26 _ rfl (some 1) rfl (u32s start) (by kernel_rfl) ?_
  go_simp
  refine wpList_buildTo rfl 29 _ rfl (some 2) rfl (u32s start) (by kernel_rfl) ?_
  go_simp
  have hI : (Tryd.prog.info? 29).map (·.size) = some (u32s start).size := by rw [size29, u32s_size, start_len]
  have hB2 := below_setRow ((Below.refl _ w).alloc (Nat.le_refl _) (.cells (u32s z8) 29)) (g := w.heap.size) (Nat.le_refl _) (u32s start)
  have hR2 := hR.put (u32s start)
  have HI := Lib.hid hI
  have HO := Lib.hid (show (u32s z8).size = (u32s start).size by rw [u32s_size, u32s_size]; rfl)
  have H19 := Lib.hid (u32s_one start)
  clear hI
  with_reducible refine wpList_storeRow (op := ⟨none, .store 29 (.tmp 0) (.tmp 2), _, _, _, none⟩) rfl 29 (.tmp 0) (.tmp 2) rfl w.heap.size ?_ (cs := u32s start) ?_ hR HI.out HO.out H19.out ?_
  · rfl
  · rfl
  go_simp
  go_wp2_with fail
  exact bodyPost_ret (v := .agg (u32s start)) (results_row rfl rfl hR2 Tryd.underlying29 rfl HI.out) rfl ⟨rfl, hB2⟩

theorem ref_Start_any (w : World) : Calls Tryd.prog 19 #[] w fun e w' => e = .returned (.agg (u32s start)) ∧ Below w.heap.size w w' := by
  have hz := zero26
  go_enter Tryd.func19, Tryd.ntmps19
  go_upto_region 1 with (fail)
  have hR := Row.new w 26 (u32s z8)
  go_step
  refine wpList_buildTo rfl 26 _ rfl (some 1) rfl (u32s start) (by kernel_rfl) ?_
  go_simp
  have hI : (Tryd.prog.info? 26).map (·.size) = some (u32s start).size := by rw [size26, u32s_size, start_len]
  have hB2 := below_setRow ((Below.refl _ w).alloc (Nat.le_refl _) (.cells (u32s z8) 26)) (g := w.heap.size) (Nat.le_refl _) (u32s start)
  have hR2 := hR.put (u32s start)
  have HI := Lib.hid hI
  have HO := Lib.hid (show (u32s z8).size = (u32s start).size by rw [u32s_size, u32s_size]; rfl)
  have H19 := Lib.hid (u32s_one start)
  clear hI
  with_reducible refine wpList_storeRow (op := ⟨none, .store 26 (.tmp 0) (.tmp 1), _, _, _, none⟩) rfl 26 (.tmp 0) (.tmp 1) rfl w.heap.size ?_ (cs := u32s start) ?_ hR HI.out HO.out H19.out ?_
  · rfl
  · rfl
  go_simp
  go_wp2_with fail
  exact bodyPost_ret (v := .agg (u32s start)) (results_row rfl rfl hR2 Tryd.underlying26 rfl HI.out) rfl ⟨rfl, hB2⟩

/-- The state behind blocks. -/
def fold (l : List (List UInt8)) : List Nat := l.foldl block start
theorem fold_snoc (l : List (List UInt8)) (b : List UInt8) : fold (l ++ [b]) = block (fold l) b := by simp [fold]
theorem fold_len : ∀ l : List (List UInt8), (fold l).length = 8 := by
  have h : ∀ (l : List (List UInt8)) (s : List Nat), s.length = 8 → (l.foldl block s).length = 8 := by
    intro l
    induction l with
    | nil => exact fun s h => h
    | cons b l ih => exact fun s h => ih _ (by rw [block_len, h])
  exact fun l => h l start rfl
theorem fold_words : ∀ l : List (List UInt8), Words (fold l) := by
  have h : ∀ (l : List (List UInt8)) (s : List Nat), Words s → Words (l.foldl block s) := by
    intro l
    induction l with
    | nil => exact fun s h => h
    | cons b l ih => exact fun s h => ih _ (block_words h b)
  exact fun l => h l start start_words
theorem fold_tells (all : List UInt8) : ∀ n, fold (tells all n) = run all n
  | 0 => rfl
  | n + 1 => by rw [tells_succ, fold_snoc, fold_tells all n]; rfl
theorem sum_full (s : ByteArray) : sum s.data.toList = bytes (fold (tells (full s) ((full s).length / 64))) := by rw [fold_tells]; rfl

theorem Row.kept {W W' : World} {g B : Nat} {t : TypeId} {cs : Array Value} {row : Option Nat} (h : Row W g t cs) (hg : W.grownBy W' row) (hr : ∀ r, row = some r → B ≤ r ∧ ∃ o : Obj, W.heap[r]? = some o ∧ o.isCells = false) : Row W' g t cs := by
  refine (hg.block g h.lt (fun e => ?_)).trans h
  obtain ⟨_, _, ho, hc⟩ := hr g e.symm
  rw [show W.heap[g]? = _ from h] at ho
  cases ho
  cases hc
theorem keepsOthers_below {W W' : World} (h : Below W.heap.size W W') : KeepsOthers W W' :=
  ⟨h.size, fun k _ hk _ => (h.block k (Array.getElem?_eq_some_iff.1 hk).1).trans hk⟩
theorem keepsOthers_setRow {W : World} {g : Nat} {t : TypeId} {old : Array Value} (h : Row W g t old) (cs : Array Value) : KeepsOthers W (W.setRow g cs) :=
  ⟨by simp, fun k _ hk ho => by
    have hne : k ≠ g := fun e => by
      subst e
      rw [show W.heap[k]? = _ from h] at hk
      cases hk
      cases ho
    rw [setRow_other _ _ _ _ hne]; exact hk⟩

/-- What a round of the loop over the blocks keeps. -/
structure SumI (w W : World) (g3 g4 : Nat) (pre : List Blk) : Prop where
  st : Row W g3 29 (u32s (fold (vals pre)))
  kept : Boxed W g4 32 (.func (.func 16) #[.agg (u32s (fold (vals pre)))] #[])
  below : Below w.heap.size w W
  size : g4 + 2 ≤ W.heap.size

set_option maxRecDepth 100000 in
set_option maxHeartbeats 2000000 in
theorem Sum_in (s : ByteArray) (hs : s.size ≤ 1073741824) (w : World) (hG : Cubes w) :
    CallsIn Fence.wide 4 Tryd.prog 10 #[.string s] w fun e w' => e = .returned (.string ⟨(sum s.data.toList).toArray⟩) ∧ Below w.heap.size w w' := by
  have hz := zero29
  refine callsIn_of_wp_marks Tryd.func10 rfl trivial ?_ rfl
  simp only [Tryd.ntmps10, List.size_toArray, List.length_cons, List.length_nil, Nat.reduceAdd, Nat.reduceSub, Array.replicate_succ, Array.replicate_zero, List.push_toArray, List.append_toArray, List.nil_append, List.cons_append]
  refine (wpIn_wide (n := 4)).2 ?_
  have HI : Hid ((Tryd.prog.info? 29).map (·.size) = some (u32s start).size) := Lib.hid (by rw [size29, u32s_size, start_len])
  have HO : Hid ((u32s z8).size = (u32s start).size) := Lib.hid (by rw [u32s_size, u32s_size]; rfl)
  have H1 : Hid ((u32s start).all (·.oneCell') = true) := Lib.hid (u32s_one start)
  go_upto_region 2 with (first | ((with_reducible refine (Start_any _).mono ?_); rintro e w1 ⟨rfl, hb1⟩; have hR1 := Row.new w1 29 (u32s z8)) | ((with_reducible refine wpList_storeRow (op := ⟨none, .store 29 (.tmp 3) (.tmp 6), _, _, _, none⟩) rfl 29 (.tmp 3) (.tmp 6) rfl w1.heap.size ?_ (cs := u32s start) ?_ hR1 HI.out HO.out H1.out ?_); (rfl; rfl)))
  have hR2 := hR1.put (u32s start)
  have hB2 : Below w.heap.size w ((w1.alloc (.cells (u32s z8) 29)).setRow w1.heap.size (u32s start)) := below_setRow (hb1.alloc hb1.size _) hb1.size _
  have hS2 := Lib.hid (show ((w1.alloc (.cells (u32s z8) 29)).setRow w1.heap.size (u32s start)).heap.size = w1.heap.size + 1 by simp)
  have hn1 : w.heap.size ≤ w1.heap.size := hb1.size
  generalize (w1.alloc (.cells (u32s z8) 29)).setRow w1.heap.size (u32s start) = w2 at *
  generalize w1.heap.size = g3 at *
  clear hR1 hb1
  go_wp2_with (first | ((with_reducible refine wpList_loadRow (op := ⟨some 7, .load 29 (.tmp 3), _, _, _, none⟩) rfl 29 (.tmp 3) rfl g3 ?_ hR2 Tryd.underlying29 rfl HI.out ?_); rfl) | ((with_reducible refine (blocks_any s _).mono ?_); rintro e w3 ⟨rfl, rfl⟩))
  generalize hW0 : (w2.alloc (Obj.cells #[Value.func (Fn.func 16) #[Value.agg (u32s start)] #[]] 32)).alloc (Obj.cells #[Value.string s] 9) = W0
  have h2 := hS2.out
  have hI0 : SumI w W0 g3 w2.heap.size [] := by
    rw [← hW0]
    exact ⟨(hR2.alloc _).alloc _, (Boxed.new _ _ _).alloc _, (hB2.alloc (by omega) _).alloc (by simp; omega) _, by simp⟩
  have hsz0 : W0.heap.size = w2.heap.size + 2 := by rw [← hW0]; simp
  have hc0 : W0.cell? ⟨w2.heap.size + 1, 0, none⟩ = some (.string s) := by
    rw [← hW0]
    exact World.cell?_alloc_at _ _ _ _ (by simp)
  have hg34 : g3 < w2.heap.size := hR2.lt
  generalize w2.heap.size = g4 at *
  clear hW0 hR2 hB2 hS2 h2
  have hnW : w.heap.size ≤ W0.heap.size := by omega
  refine (wpIn_wide (n := 4)).1 ?_
  refine wpIn_rangeFunc_ownH (F := Fence.wide) rfl (by omega) (gf := 29) (lb := #[.pointer (some ⟨g4 + 1, 0, none⟩)]) rfl trivial (enters_of Tryd.func29 (by kernel_rfl) rfl)
    (blocks_stops (g4 + 1) w.heap.size s hs W0 (by omega) hc0) belowK_t (belowK_b hnW) (Below.refl _ _) (fun _ => rfl)
    (fun (pre : List Blk) W => SumI w W g3 g4 pre)
    (fun _ _ _ => False)
    (fun pre X Y row hI hg hr => ⟨hI.st.kept hg hr, hI.kept.kept hg (fun e => by
        obtain ⟨_, _, ho, hc⟩ := hr g4 e.symm
        rw [show X.heap[g4]? = _ from hI.kept] at ho
        cases ho; cases hc), hI.below.grown hg hI.below.size (fun k e => by have := (hr k e).1; omega), by have := hg.size; have := hI.size; omega⟩)
    (fun _ _ _ _ _ hs _ _ => hs)
    hI0
    (fun x a' W => ∃ B, g4 + 1 < B ∧ Row W B 27 (u8s x.1) ∧ a' = { tmps := #[.string s, undef, .string { data := #[] }, .pointer (some ⟨g3, 0, none⟩), .pointer (some ⟨g4, 0, none⟩), .pointer (some ⟨B, 0, none⟩), .agg (u32s start), .agg (u32s start), .func (.func 16) #[.agg (u32s start)] #[], .string s, .func (.func 29) #[] #[.pointer (some ⟨g4 + 1, 0, none⟩)], .agg (u8s x.1), undef, undef, undef, undef, undef, undef, undef], defers := [] })
    (fun x a' _ X Y row ⟨B, h1, h2, h3⟩ hg hr => ⟨B, h1, h2.kept hg hr, h3⟩)
    ?assign ?body ?done ?stop
  case assign =>
    intro l pre x W K hI hK
    have hz2 := zero27
    have hRn := Row.new W 27 (u8s b64)
    have hxI : Hid ((Tryd.prog.info? 27).map (·.size) = some (u8s x.1).size) := Lib.hid (by rw [size27, u8s_size, x.2])
    have hxO : Hid ((u8s b64).size = (u8s x.1).size) := Lib.hid (by rw [u8s_size, u8s_size, x.2, b64_len])
    have hx1 : Hid ((u8s x.1).all (·.oneCell') = true) := Lib.hid (u8s_one _)
    have hl3 := hI.st.lt
    have hl4 : g4 < W.heap.size := hI.kept.lt
    have hKK := hK _ ((W.alloc (.cells (u8s b64) 27)).setRow W.heap.size (u8s x.1))
      (((KeepsOthers.alloc W _).trans (keepsOthers_setRow hRn (u8s x.1))).from _)
      (below_setRow ((Below.refl w.heap.size W).alloc hI.below.size _) hI.below.size _)
      ⟨(hI.st.alloc _).putApart (by omega) _, (show Row _ _ _ _ from hI.kept.alloc _).putApart (by omega) _, below_setRow (hI.below.alloc hI.below.size _) hI.below.size _, by have := hI.size; simp; omega⟩
      ⟨W.heap.size, by have := hI.size; omega, hRn.put _, rfl⟩
    have HK := Lib.hid hKK
    clear hKK hK hl3 hl4
    gi_wp2_with ((with_reducible refine wpListIn_storeRow (op := ⟨none, .store 27 (.tmp 5) (.tmp 11), _, _, _, none⟩) rfl 27 (.tmp 5) (.tmp 11) rfl W.heap.size ?_ (cs := u8s x.1) ?_ hRn hxI.out hxO.out hx1.out ?_); (rfl; rfl))
    exact HK.out
  case body =>
    rintro l pre x a' W hl ⟨r, hr⟩ hI ⟨B, hB1, hB2, rfl⟩ hlt
    have hfl := fold_len (vals pre)
    have hfw := fold_words (vals pre)
    have HF : Hid (fold (vals (pre ++ [x])) = block (fold (vals pre)) x.1) := Lib.hid (by rw [vals_snoc, fold_snoc])
    have hst := hI.st
    have hkp := hI.kept
    have hG9 := hG.below hI.below
    have hbs := hI.below.size
    have hsz := hI.size
    have hbI := hI.below
    have hx9 := x.2
    clear hI hI0
    generalize fold (vals pre) = f at *
    obtain ⟨xb, hxb⟩ : ∃ xb, xb = x.1 := ⟨_, rfl⟩
    rw [← hxb] at HF hB2 hx9 ⊢
    clear hxb
    have hfI : Hid ((Tryd.prog.info? 29).map (·.size) = some (u32s f).size) := Lib.hid (by rw [size29, u32s_size, hfl])
    have hxI : Hid ((Tryd.prog.info? 27).map (·.size) = some (u8s xb).size) := Lib.hid (by rw [size27, u8s_size, hx9])
    have hbI9 : Hid ((Tryd.prog.info? 29).map (·.size) = some (u32s (block f xb)).size) := Lib.hid (by rw [size29, u32s_size, block_len, hfl])
    have hbO : Hid ((u32s f).size = (u32s (block f xb)).size) := Lib.hid (by rw [u32s_size, u32s_size, block_len])
    have hb1 : Hid ((u32s (block f xb)).all (·.oneCell') = true) := Lib.hid (u32s_one _)
    have hblk := fun W' (hG' : Cubes W') => Block_any f xb hfl hfw hx9 W' hG'
    have HBL := Lib.hid hblk
    have h3 := hst.lt
    have h4 : g4 < W.heap.size := hkp.lt
    clear hblk hfl hfw hx9
    gi_wp2_with (first
      | ((with_reducible refine wpListIn_loadRow (op := ⟨some 12, .load 29 (.tmp 3), _, _, _, none⟩) rfl 29 (.tmp 3) rfl g3 ?_ hst Tryd.underlying29 rfl hfI.out ?_); rfl)
      | ((with_reducible refine wpListIn_loadRow (op := ⟨some 13, .load 27 (.tmp 5), _, _, _, none⟩) rfl 27 (.tmp 5) rfl B ?_ hB2 Tryd.underlying27 rfl hxI.out ?_); rfl))
    refine ⟨trivial, ?_⟩
    refine (CallsIn.inRound l ((callsIn_wide (n := 1)).2 (HBL.out _ hG9))).mono ?_
    rintro e w3 ⟨rfl, hb3⟩
    have hst3 := hst.below hb3 h3
    have hkp3 : Boxed w3 g4 _ _ := (show Row _ _ _ _ from hkp).below hb3 h4
    have hst4 := hst3.put (u32s (block f xb))
    have hkp4 : Boxed (w3.setRow g3 (u32s (block f xb))) g4 _ _ := (show Row _ _ _ _ from hkp3).putApart (by omega) _
    have hc4 := hkp4.cell
    have hf4 := hkp4.frozen
    gi_wp2_with (first
      | ((with_reducible refine wpListIn_storeRow (op := ⟨none, .store 29 (.tmp 3) (.tmp 14), _, _, _, none⟩) rfl 29 (.tmp 3) (.tmp 14) rfl g3 ?_ (cs := u32s (block f xb)) ?_ hst3 hbI9.out hbO.out hb1.out ?_); (rfl; rfl))
      | ((with_reducible refine wpListIn_loadRow (op := ⟨some 15, .load 29 (.tmp 3), _, _, _, none⟩) rfl 29 (.tmp 3) rfl g3 ?_ hst4 Tryd.underlying29 rfl hbI9.out ?_); rfl))
    have hset := hkp4.set (.func (.func 16) #[.agg (u32s (block f xb))] #[])
    have hstA := hst4.apart (show g3 ≠ g4 by omega) 0 (.func (.func 16) #[.agg (u32s (block f xb))] #[])
    have hbel := (below_setRow (hb3.mono hbs) (g := g3) (by omega) (u32s (block f xb))).setCell (p := ⟨g4, 0, none⟩) (by simp; omega) (.func (.func 16) #[.agg (u32s (block f xb))] #[])
    refine ⟨(((keepsOthers_below hb3).trans (keepsOthers_setRow hst3 _)).trans (KeepsOthers.setCell _ _ _)).from _, hbel, ?_⟩
    refine ⟨?_, ?_, hbI.trans hbel, ?_⟩
    · rw [HF.out]; exact hstA
    · rw [HF.out]; exact hset
    · have := hb3.size
      simp [World.setCell]
      omega
  case done =>
    rintro D ys W hD hys hI hK
    have hc := hI.kept.cell
    have hfl := fold_len (vals ys)
    have hfw := fold_words (vals ys)
    have HS := Lib.hid (sum_full s)
    rw [← hys] at HS
    have hDlt : D < W.heap.size := (Array.getElem?_eq_some_iff.1 hK).1
    have hbI := hI.below
    clear hI hI0 hys
    generalize fold (vals ys) = f at *
    have HBY := Lib.hid (fun W' => Bytes_any f hfl hfw W')
    clear hfl hfw
    go_wp2_with (go_at_call 16; refine (HBY.out _).mono ?_; rintro e w4 ⟨rfl, hb4⟩)
    have hK4 := (hb4.block D hDlt).trans hK
    refine ⟨by simp, .inl ⟨_, _, rfl, run_takeDeferred hK4, ?_⟩⟩
    exact ⟨_, results_tmp (t := 2) rfl _ _ _, ret_str (by rw [HS.out]), (hbI.trans (hb4.mono hbI.size)).trans (belowK_b (w := W0) hnW w4 D _ _ hD hK4 rfl rfl)⟩
  case stop =>
    rintro D c pre W _ _ h _
    exact h.elim

theorem Sum_any (s : ByteArray) (hs : s.size ≤ 1073741824) (w : World) (hG : Cubes w) :
    Calls Tryd.prog 10 #[.string s] w fun e w' => e = .returned (.string ⟨(sum s.data.toList).toArray⟩) ∧ Below w.heap.size w w' :=
  (callsIn_wide (n := 4)).1 (Sum_in s hs w hG)

end Go.Proofs.YtidkakjghimimaaDoor.Sha
