/-
  The document's own text for what is read, all one by one, walked.
-/
import Derived.Test.YtelljahjkfoleaaWireRefE
import Derived.Test.YtelljahjkfoleaaWireLawR
import Derived.Deep.LoopGhost
import Derived.Deep.CutRange
import Derived.Deep.DeepCutAuto
import Derived.Maps.AppendAt
import Derived.Deep.AppendLies
namespace Go.Proofs.Ytelljahjkfoleaa.Wire
open Go.RowKit Leb Mem

/-- One reading more. -/
def stepO (S : ByteArray) (s : Out) (o : Int × Int) : Out := (outOf S s.to.toNat o.1 o.2).fin s.er s.to.toNat
/-- Where one is behind so many readings. -/
def st (S : ByteArray) (os : List (Int × Int)) (i : Nat) : Out := (os.take i).foldl (stepO S) ⟨0, 0, [], 0, 0⟩
theorem st_0 (S : ByteArray) (os : List (Int × Int)) : st S os 0 = ⟨0, 0, [], 0, 0⟩ := rfl
theorem st_succ (S : ByteArray) (os : List (Int × Int)) (i : Nat) (o : Int × Int) (h : os[i]? = some o) : st S os (i + 1) = stepO S (st S os i) o := by
  obtain ⟨hi, rfl⟩ := List.getElem?_eq_some_iff.1 h
  unfold st
  rw [List.take_succ_eq_append_getElem hi, List.foldl_append]
  rfl
theorem stepO_range (S : ByteArray) (s : Out) (o : Int × Int) (h0 : 0 ≤ s.to) (h1 : s.to ≤ S.size) : 0 ≤ (stepO S s o).to ∧ (stepO S s o).to ≤ S.size := by
  have := fin_range S s.to.toNat s.er o.1 o.2 (by omega)
  exact ⟨this.1, this.2.1⟩
theorem st_range (S : ByteArray) (os : List (Int × Int)) (i : Nat) : 0 ≤ (st S os i).to ∧ (st S os i).to ≤ S.size := by
  unfold st
  generalize os.take i = l
  have : ∀ (l : List (Int × Int)) (s : Out), 0 ≤ s.to → s.to ≤ S.size → 0 ≤ (l.foldl (stepO S) s).to ∧ (l.foldl (stepO S) s).to ≤ S.size := by
    intro l
    induction l with
    | nil => intro s h0 h1; exact ⟨h0, h1⟩
    | cons o t ih => intro s h0 h1; exact ih _ (stepO_range S s o h0 h1).1 (stepO_range S s o h0 h1).2
  exact this l _ (by simp) (by simp)

/-- What is told of one reading, as cells. -/
def gcell (S : ByteArray) (f : Out) : List Value := [.int .u64 f.num, .int .i64 f.int, .string (strB f.text), .int .i64 f.to, .int .i64 (endOf S f.to f.er)]
/-- What is told of the first k. -/
def gots (S : ByteArray) (os : List (Int × Int)) (k : Nat) : List Value := (List.range k).flatMap fun i => gcell S (st S os (i + 1))
theorem gots_succ (S : ByteArray) (os : List (Int × Int)) (k : Nat) : gots S os (k + 1) = gots S os k ++ gcell S (st S os (k + 1)) := by
  unfold gots
  rw [List.range_succ, List.flatMap_append]
  simp
theorem gots_len (S : ByteArray) (os : List (Int × Int)) (k : Nat) : (gots S os k).length = k * 5 := by
  induction k with
  | zero => rfl
  | succ k ih => rw [gots_succ, List.length_append, ih]; simp [gcell]; omega
theorem gots_at (S : ByteArray) (os : List (Int × Int)) (k i j : Nat) (hi : i < k) (hj : j < 5) : (gots S os k)[i * 5 + j]? = (gcell S (st S os (i + 1)))[j]? := by
  induction k with
  | zero => omega
  | succ k ih =>
    rw [gots_succ]
    by_cases h : i < k
    · rw [List.getElem?_append_left (by rw [gots_len]; omega), ih h]
    · obtain rfl : i = k := by omega
      rw [List.getElem?_append_right (by rw [gots_len]; omega), gots_len, Nat.add_sub_cancel_left]

/-- What was there is there. -/
def KS (a w : World) : Prop := Below a.heap.size a w
theorem KS.cell {a w : World} (h : KS a w) (p : Addr) (hp : p.block < a.heap.size) : w.cell? p = a.cell? p := Below.cell h hp
theorem KS.size {a w : World} (h : KS a w) : a.heap.size ≤ w.heap.size := Below.size h
theorem KS.alloc {a w : World} (h : KS a w) (o : Obj) : KS a (w.alloc o) := Below.alloc h (Below.size h) o
theorem KS.setCell {a w : World} (h : KS a w) {q : Addr} (hq : a.heap.size ≤ q.block) (v : Value) : KS a (w.setCell q v) := Below.setCell h hq v
theorem KS.call {a w w' : World} (h : KS a w) (hb : Below w.heap.size w w') : KS a w' := Below.trans h (hb.mono (Below.size h))
/-- Three cells, and five, are written. -/
def set3 (w : World) (g : Nat) (x y z : Value) : World := ((w.setCell ⟨g, 0, none⟩ x).setCell ⟨g, 1, none⟩ y).setCell ⟨g, 2, none⟩ z
def set5 (w : World) (g : Nat) (x y z u v : Value) : World := ((((w.setCell ⟨g, 0, none⟩ x).setCell ⟨g, 1, none⟩ y).setCell ⟨g, 2, none⟩ z).setCell ⟨g, 3, none⟩ u).setCell ⟨g, 4, none⟩ v
theorem Blk.set3 {w : World} {g : Nat} {t : TypeId} {a b c : Value} (h : Blk w g t #[a, b, c]) (x y z : Value) : Blk (set3 w g x y z) g t #[x, y, z] := ((h.set 0 x).set 1 y).set 2 z
theorem Blk.set5 {w : World} {g : Nat} {t : TypeId} {a b c d e : Value} (h : Blk w g t #[a, b, c, d, e]) (x y z u v : Value) : Blk (set5 w g x y z u v) g t #[x, y, z, u, v] := ((((h.set 0 x).set 1 y).set 2 z).set 3 u).set 4 v
theorem Blk.far3 {w : World} {g g' : Nat} {t : TypeId} {cs : Array Value} (h : Blk w g t cs) (hne : g ≠ g') (x y z : Value) : Blk (Wire.set3 w g' x y z) g t cs :=
  ((h.apart (p := ⟨g', 0, none⟩) hne x).apart (p := ⟨g', 1, none⟩) hne y).apart (p := ⟨g', 2, none⟩) hne z
theorem Blk.far5 {w : World} {g g' : Nat} {t : TypeId} {cs : Array Value} (h : Blk w g t cs) (hne : g ≠ g') (x y z u v : Value) : Blk (Wire.set5 w g' x y z u v) g t cs :=
  ((((h.apart (p := ⟨g', 0, none⟩) hne x).apart (p := ⟨g', 1, none⟩) hne y).apart (p := ⟨g', 2, none⟩) hne z).apart (p := ⟨g', 3, none⟩) hne u).apart (p := ⟨g', 4, none⟩) hne v
theorem KS.set3 {a w : World} (h : KS a w) {g : Nat} (hg : a.heap.size ≤ g) (x y z : Value) : KS a (Wire.set3 w g x y z) :=
  ((h.setCell (q := ⟨g, 0, none⟩) hg x).setCell (q := ⟨g, 1, none⟩) hg y).setCell (q := ⟨g, 2, none⟩) hg z
theorem KS.set5 {a w : World} (h : KS a w) {g : Nat} (hg : a.heap.size ≤ g) (x y z u v : Value) : KS a (Wire.set5 w g x y z u v) :=
  ((((h.setCell (q := ⟨g, 0, none⟩) hg x).setCell (q := ⟨g, 1, none⟩) hg y).setCell (q := ⟨g, 2, none⟩) hg z).setCell (q := ⟨g, 3, none⟩) hg u).setCell (q := ⟨g, 4, none⟩) hg v
theorem set3_size (w : World) (g : Nat) (x y z : Value) : (Wire.set3 w g x y z).heap.size = w.heap.size := by simp [Wire.set3, World.setCell]
theorem set5_size (w : World) (g : Nat) (x y z u v : Value) : (Wire.set5 w g x y z u v).heap.size = w.heap.size := by simp [Wire.set5, World.setCell]
theorem Blk.new_at (w : World) (t : TypeId) (cs : Array Value) {n : Nat} (h : n = w.heap.size) : Blk (w.alloc (.cells cs t)) n t cs := by subst h; exact Blk.new w t cs
theorem KS.same (a : World) : KS a a := Below.refl _ a
theorem KS.drew {a w : World} (h : KS a w) : KS a w.drew := Below.drew h
theorem one_facts {a w : World} {cs : Array Value} {t : TypeId} (hb : Below (a.alloc (.cells cs t)).drew.heap.size (a.alloc (.cells cs t)).drew w) : Blk w a.heap.size t cs :=
  (Blk.new a t cs).drew.below hb (by show _ < (a.alloc (.cells cs t)).heap.size; simp)
theorem two_facts {a w : World} {cs ds : Array Value} {t u : TypeId} (hb : Below ((a.alloc (.cells cs t)).alloc (.cells ds u)).drew.heap.size ((a.alloc (.cells cs t)).alloc (.cells ds u)).drew w) : Blk w a.heap.size t cs ∧ Blk w (a.heap.size + 1) u ds := by
  have h2 := Blk.new (a.alloc (.cells cs t)) u ds
  rw [World.size_alloc] at h2
  exact ⟨((Blk.new a t cs).alloc _).drew.below hb (by show _ < ((a.alloc (.cells cs t)).alloc (.cells ds u)).heap.size; simp; omega), h2.drew.below hb (by show _ < ((a.alloc (.cells cs t)).alloc (.cells ds u)).heap.size; simp)⟩

theorem info_got : (Try.prog.info? 31).map (fun i => (i.zero, i.size, i.bytes)) = some (some (.agg z5), 5, 48) := by kernel_rfl

set_option maxRecDepth 100000 in
set_option maxHeartbeats 4000000 in
theorem ref_Run_any (S : ByteArray) (hs : S.size ≤ 1073741824) (A : Option Addr) (cap : Nat) (os : List (Int × Int)) (hn : os.length ≤ 60) (w : World) (hx : Ops w w.heap.size A os) :
    Calls Try.prog 10 #[.string S, .slice A os.length cap] w fun e w' => ∃ v, e = .returned v ∧ w'.ownsRow w.heap.size 31 5 v os.length (gots S os os.length) ∧ Below w.heap.size w w' := by
  have HX := Lib.hid hx
  clear hx
  have hb0 : Below w.heap.size w (w.alloc (.cells #[.string S, .int .i64 0, .int .i64 0] 60)) := (Below.refl _ _).alloc (Nat.le_refl _) _
  have bR := Blk.new w 60 #[.string S, .int .i64 0, .int .i64 0]
  go_enter Try.func10, Try.ntmps10
  go_wp2_with fail
  go_loopg [6, 7] os.length (fun g v i wr => ∃ k : Nat, k ≤ os.length ∧ g = os.length - k ∧ i = .int .i64 k ∧ Below w.heap.size w wr ∧ Blk wr w.heap.size 60 #[.string S, .int .i64 (st S os k).to, .int .i64 (st S os k).er] ∧ wr.ownsRow w.heap.size 31 5 v k (gots S os k))
  case atStart => exact ⟨0, by omega, by omega, rfl, hb0, bR, World.ownsRow_nil _ _ _ _⟩
  case round =>
    clear hb0 bR
    obtain ⟨k, hk, rfl, rfl, hB, bR, hO⟩ := hrel
    obtain ⟨r0, r1⟩ := st_range S os k
    by_cases hlt : k < os.length
    · obtain ⟨x, hxk⟩ : ∃ x, os[k]? = some x := ⟨_, List.getElem?_eq_getElem hlt⟩
      obtain ⟨ad, rfl, hb, ok, h0, h1⟩ := (HX.out.below hB) k x hxk
      have HS := Lib.hid (st_succ S os k x hxk)
      clear hxk
      obtain ⟨q, hq⟩ := Int.eq_ofNat_of_zero_le r0
      have HD := Lib.hid (fun W => ref_Do_any S q (st S os k).er x.1 x.2 ok W hs (by omega))
      have hfe : (outOf S q x.1 x.2).fin (st S os k).er q = st S os (k + 1) := by
        rw [HS.out]; unfold stepO; rw [hq]; rfl
      rw [hfe] at HD
      rw [hq] at bR r1
      clear hq hfe r0
      generalize (st S os k).er = er at *
      generalize hf : st S os (k + 1) = f at *
      have HF := Lib.hid hf
      clear hf
      obtain ⟨xk, xn⟩ := x
      obtain ⟨c0, c1, c2⟩ := bR.three
      have i0 : (0 : Int) ≤ (k : Int) := by omega
      have i1 : (k : Int) < (os.length : Int) := by omega
      simp only at h0 h1
      have hl : w.heap.size < wr.heap.size := bR.lt
      have ha : (ad.add (k * 2)).block < wr.heap.size := by rw [add_block]; omega
      go_wp2_with fail
      go_cut [8, 9] from 12 to 37 (fun s8 s9 wx => ∃ g8 g9 : Nat, s8 = .pointer (some ⟨g8, 0, none⟩) ∧ s9 = .pointer (some ⟨g9, 0, none⟩) ∧ g8 ≠ g9 ∧ Below wr.heap.size wr wx ∧ wr.heap.size ≤ g8 ∧ wr.heap.size ≤ g9 ∧ Blk wx g8 60 #[.string S, .int .i64 f.to, .int .i64 f.er] ∧ Blk wx g9 31 #[.int .u64 f.num, .int .i64 f.int, .string (strB f.text), .int .i64 0, .int .i64 0])
      case first =>
        have HV : ∀ W, KS wr W → ((W.cell? ⟨w.heap.size, 0, none⟩ = some (.string S) ∧ W.cell? ⟨w.heap.size, 1, none⟩ = some (.int .i64 q) ∧ W.cell? ⟨w.heap.size, 2, none⟩ = some (.int .i64 er)) ∧ W.cell? (ad.add (k * 2)) = some (.int .i64 xk) ∧ W.cell? ⟨(ad.add (k * 2)).block, (ad.add (k * 2)).off + 1, none⟩ = some (.int .i64 xn)) :=
          fun W h => ⟨⟨(h.cell _ hl).trans c0, (h.cell _ hl).trans c1, (h.cell _ hl).trans c2⟩, (h.cell (ad.add (k * 2)) ha).trans h0, (h.cell ⟨(ad.add (k * 2)).block, (ad.add (k * 2)).off + 1, none⟩ ha).trans h1⟩
        have HVV := Lib.hid HV
        clear HV c0 c1 c2 h0 h1
        go_region_held3 (fun w' => (w'.cell? ⟨w.heap.size, 0, none⟩ = some (.string S) ∧ w'.cell? ⟨w.heap.size, 1, none⟩ = some (.int .i64 q) ∧ w'.cell? ⟨w.heap.size, 2, none⟩ = some (.int .i64 er)) ∧ w'.cell? (ad.add (k * 2)) = some (.int .i64 xk) ∧ w'.cell? ⟨(ad.add (k * 2)).block, (ad.add (k * 2)).off + 1, none⟩ = some (.int .i64 xn))
          (((with_reducible refine HVV.out _ ?_); (repeat (first | (with_reducible exact KS.same wr) | (with_reducible exact hK.out) | (with_reducible refine KS.drew ?_) | (with_reducible refine KS.alloc ?_ _) | (with_reducible refine KS.setCell ?_ ?_ _) | (dsimp only; omega)))))
          (first | (go_at_call 27; (with_reducible refine (HD.out _).mono ?_); intro e w3 hq; obtain ⟨he, hb3⟩ := hq; subst he
                    (first | ((with_reducible have hA := two_facts hb3); obtain ⟨hA, hA'⟩ := hA; have hk0 := hA.cell; have hk1 := hA'.cell; have hg0 := hA.frozen; have hg1 := hA'.frozen; have hz0 := hA.lt; have hz1 := hA'.lt; have hy0 := Nat.ne_of_lt hA.lt; have hy1 := Nat.ne_of_lt hA'.lt; have hx0 := Nat.ne_of_gt hA.lt; have hx1 := Nat.ne_of_gt hA'.lt)
                           | ((with_reducible have hA := one_facts hb3); have hk0 := hA.cell; have hg0 := hA.frozen; have hz0 := hA.lt; have hy0 := Nat.ne_of_lt hA.lt; have hx0 := Nat.ne_of_gt hA.lt)
                           | skip)
                    have hK : Hid (KS wr w3) := Lib.hid (by
                      with_reducible refine KS.call ?_ hb3
                      repeat (first | (with_reducible exact KS.same wr) | (with_reducible refine KS.drew ?_) | (with_reducible refine KS.alloc ?_ _)))
                    have hsz3 := hK.out.size))
        all_goals (go_wp2_with fail; go_meet)
        · exact ⟨w3.heap.size, w3.heap.size + 1, rfl, rfl, by omega, (hK.out.alloc _).alloc _, hsz3, by omega, (Blk.new _ _ _).alloc _, Blk.new_at _ _ _ (by simp)⟩
        · exact ⟨w3.heap.size + 1, w3.heap.size, rfl, rfl, by omega, (hK.out.alloc _).alloc _, by omega, hsz3, Blk.new_at _ _ _ (by simp), (Blk.new _ _ _).alloc _⟩
        · exact ⟨wr.heap.size, w3.heap.size, rfl, rfl, by omega, (hK.out.set3 (Nat.le_refl _) _ _ _).alloc _, Nat.le_refl _, hsz3, (Blk.set3 hA _ _ _).alloc _, Blk.new_at _ _ _ (set3_size ..).symm⟩
        · exact ⟨wr.heap.size, wr.heap.size + 1, rfl, rfl, by omega, (hK.out.set3 (Nat.le_refl _) _ _ _).set5 (Nat.le_succ _) _ _ _ _ _, Nat.le_refl _, Nat.le_succ _, Blk.far5 (Blk.set3 hA _ _ _) (by omega) _ _ _ _ _, Blk.set5 (Blk.far3 hA' (by omega) _ _ _) _ _ _ _ _⟩
        · exact ⟨w3.heap.size, wr.heap.size, rfl, rfl, by omega, (hK.out.set5 (Nat.le_refl _) _ _ _ _ _).alloc _, hsz3, Nat.le_refl _, Blk.new_at _ _ _ (set5_size ..).symm, (Blk.set5 hA _ _ _ _ _).alloc _⟩
        · exact ⟨wr.heap.size + 1, wr.heap.size, rfl, rfl, by omega, (hK.out.set3 (Nat.le_succ _) _ _ _).set5 (Nat.le_refl _) _ _ _ _ _, Nat.le_succ _, Nat.le_refl _, Blk.far5 (Blk.set3 hA' _ _ _) (by omega) _ _ _ _ _, Blk.set5 (Blk.far3 hA (by omega) _ _ _) _ _ _ _ _⟩
      case rest =>
        obtain ⟨g8, g9, rfl, rfl, hne, hBc, l8, l9, b8, b9⟩ := hcut
        have bRc := bR.below hBc bR.lt
        have hrow : ∀ i, u6.ownBlock = some i → i < wr.heap.size ∧ i ≠ w.heap.size := fun i hi => ⟨(hO.lt i hi).2, fun e => by
          subst e
          rcases hO.2 with ⟨e1, -⟩ | ⟨g, cp, cur, e1, -, hg, -⟩
          · rw [e1] at hi; cases hi
          · rw [e1] at hi
            have : g = w.heap.size := by simpa [Value.ownBlock] using hi
            subst this
            have := (show wr.heap[w.heap.size]? = _ from bR).symm.trans hg
            simp at this⟩
        obtain ⟨x0, x1, x2⟩ := b8.three
        obtain ⟨c0', c1', c2'⟩ := bRc.three
        have fR := bRc.frozen
        obtain ⟨y0, y1, y2, y3, y4⟩ := five b9
        have f9 := b9.frozen
        have hw9 : w.heap.size ≠ g9 := by omega
        have hw8 : w.heap.size ≠ g8 := by omega
        have HE := Lib.hid (fun W => ref_End_any S f.to f.er W)
        clear c0 c1 c2 h0 h1
        have hK0 : Kept (fun i => i = w.heap.size) wr wc := Kept.of_below hBc (Nat.le_refl _)
        have hK1 := (((hK0.setCell (p := ⟨w.heap.size, 0, none⟩) (.inl rfl) (.string S)).setCell (p := ⟨w.heap.size, 1, none⟩) (.inl rfl) (.int .i64 f.to)).setCell (p := ⟨w.heap.size, 2, none⟩) (.inl rfl) (.int .i64 f.er)).setCell (p := ⟨g9, 3, none⟩) (.inr l9) (.int .i64 f.to)
        have bR1 := (((bRc.set 0 (.string S)).set 1 (.int .i64 f.to)).set 2 (.int .i64 f.er)).apart (p := ⟨g9, 3, none⟩) hw9 (.int .i64 f.to)
        have b91 := (((b9.apart (p := ⟨w.heap.size, 0, none⟩) hw9.symm (.string S)).apart (p := ⟨w.heap.size, 1, none⟩) hw9.symm (.int .i64 f.to)).apart (p := ⟨w.heap.size, 2, none⟩) hw9.symm (.int .i64 f.er)).set 3 (.int .i64 f.to)
        clear bRc b8 b9
        go_wp2_with fail
        refine (HE.out _).mono ?_
        rintro e w4 ⟨rfl, hb4⟩
        have hK4 := hK1.below hb4
        have bR4 : Blk w4 w.heap.size _ #[.string S, .int .i64 f.to, .int .i64 f.er] := bR1.below hb4 bR1.lt
        have b94 : Blk w4 g9 _ #[.int .u64 f.num, .int .i64 f.int, .string (strB f.text), .int .i64 f.to, .int .i64 0] := b91.below hb4 b91.lt
        clear x0 x1 x2 c0' c1' c2' fR y0 y1 y2 y3 y4 f9 bR1 b91 hK1 hK0 hb4 hBc
        obtain ⟨y0, y1, y2, y3, y4⟩ := five b94
        have f9 := b94.frozen
        obtain ⟨ee, he⟩ : ∃ ee, endOf S f.to f.er = ee := ⟨_, rfl⟩
        rw [he]
        have HEE := Lib.hid he
        clear he
        have hK5 := hK4.setCell (p := ⟨g9, 4, none⟩) (.inr l9) (.int .i64 ee)
        have bR5 := bR4.apart (p := ⟨g9, 4, none⟩) hw9 (.int .i64 ee)
        obtain ⟨ig, hig, hz0, hz1, hz2⟩ := info_parts info_got
        have hO5 : (w4.setCell ⟨g9, 4, none⟩ (.int .i64 ee)).ownsRow w.heap.size 31 5 u6 k (gots S os k) := ownsRow_of_block hO (fun i hi => hK5.block i (hrow i hi).1 (hrow i hi).2)
        have hsz5 := hK5.size
        have hsz4 : (w4.setCell ⟨g9, 4, none⟩ (.int .i64 ee)).heap.size = w4.heap.size := by simp [World.setCell]
        have hnew := heap_alloc_new (w4.setCell ⟨g9, 4, none⟩ (.int .i64 ee)) (.cells #[.int .u64 f.num, .int .i64 f.int, .string (strB f.text), .int .i64 f.to, .int .i64 ee] 31)
        rw [hsz4] at hnew hsz5
        have HN := Lib.hid hnew
        have HB0 : w.heap.size ≤ ((w4.setCell ⟨g9, 4, none⟩ (.int .i64 ee)).alloc (.cells #[.int .u64 f.num, .int .i64 f.int, .string (strB f.text), .int .i64 f.to, .int .i64 ee] 31)).heap.size := by rw [World.size_alloc, hsz4]; omega
        clear hK4 bR4 b94 hnew hsz4
        go_wp2_with (at_builtin; refine wpList_append_own_at _ rfl _ _ 26 rfl w.heap.size 31 ig (.agg z5) 5 48 Try.underlying26 hig hz0 hz1 hz2 rfl (by decide) _ k _ rfl (hO5.alloc _) ⟨w4.heap.size, 0, none⟩ 1 1 [.int .u64 f.num, .int .i64 f.int, .string (strB f.text), .int .i64 f.to, .int .i64 ee] rfl rfl (World.news_of_block (cs := #[.int .u64 f.num, .int .i64 f.int, .string (strB f.text), .int .i64 f.to, .int .i64 ee]) (t := 31) (fr := (0, 0)) HN.out) (by simp [Value.oneCell']) (by simp only [maxLen]; omega) (by omega) HB0 ?_; intro v7 w7 hown hg _ hat)
        have hown' : w7.ownsRow w.heap.size 31 5 v7 (k + 1) (gots S os (k + 1)) := by
          rw [gots_succ, HF.out]
          unfold gcell
          rw [HEE.out]
          exact hown
        have hK7 : Kept (fun i => i = w.heap.size ∨ u6.ownBlock = some i) wr w7 := ((hK5.mono (fun _ h => Or.inl h)).alloc _).grown hg (fun i hi => .inl (.inr hi))
        have bR7 := (bR5.alloc (.cells #[.int .u64 f.num, .int .i64 f.int, .string (strB f.text), .int .i64 f.to, .int .i64 ee] 31)).grown hg (fun e => (hrow _ e.symm).2 rfl)
        have hB7 : Below w.heap.size w w7 := Kept.fresh hB hK7 hB.size (by
          rintro i (rfl | h)
          · exact Nat.le_refl _
          · exact (hO.lt i h).1)
        go_roundg (os.length - (k + 1))
        case measure => omega
        case rel => exact ⟨k + 1, by omega, rfl, by go_num, hB7, by rw [HF.out]; exact bR7, hown'⟩
    · have hk9 : k = os.length := by omega
      subst hk9
      go_wp2_with fail
      go_ret
      exact ⟨_, rfl, hO, hB⟩

end Go.Proofs.Ytelljahjkfoleaa.Wire
