/-
  Package suite, walked: the tests of bytes. Lists are filled by a generic function that is handed a method value, or a closure.
-/
import Derived.Test.YtlecofghifjmcaaSuitePPut
import Derived.Laws.MakeOwn
set_option linter.unusedVariables false
namespace Go.Proofs.Ytlecofghifjmcaa.Suite
open Go.RowKit Leb Mem Wire Zig _root_.Go.Proofs.Ytlecofghifjmcaa.Arena _root_.Go.Proofs.Ytlecofghifjmcaa.Delta _root_.Go.Proofs.Ytlecofghifjmcaa.Path _root_.Go.Proofs.Ytlecofghifjmcaa.Cat _root_.Go.Proofs.Ytlecofghifjmcaa.Code
attribute [local go_sem ↓] Go.wp_at_zero Go.wp_at_succ

theorem SPut_any (A : Option Addr) (c : Nat) (ts : List (List Int)) (f : Int) (w : World) (h : TRow w A ts) (hl : ts.length ≤ 1000000) (h64 : T64 ts) :
    Calls Try.prog 13 #[.slice A ts.length c, .int .i64 f] w fun e w' => e = .returned (.tuple #[.string ⟨(sputE ts f).toArray⟩, .int .i64 (serr ts f)]) ∧ Below w.heap.size w w' := by
  by_cases he : serr ts f = 0
  · have := SPut_good A c ts f w h h64 (serr_zero.1 he)
    unfold sputE
    rw [if_pos he, he]
    exact this
  · have := SPut_bad A c ts f w h hl he
    unfold sputE
    rw [if_neg he]
    exact this

/-- The numbers of one test, as a package reads them. -/
abbrev rI (S : ByteArray) (s : Int × Int) (m : Nat) : List Int × (Int × Int) := rp (fun s => askP S s 3 0) s m
/-- What filling a test comes to. -/
def FillEnds (g : Nat) (S : ByteArray) (W : World) (s : Int × Int) (m : Nat) (w : World) (e : Ending) (w' : World) : Prop :=
  Rs g S W (rI S s m).2 w' ∧ Kept (· = g) w w' ∧ ∃ P c, e = .returned (.slice P (rI S s m).1.length c) ∧ TOk w' P c (rI S s m).1 ∧ ∀ ad, P = some ad → w.heap.size ≤ ad.block

set_option maxRecDepth 100000 in
set_option maxHeartbeats 2000000 in
theorem filledI_any (g : Nat) (S : ByteArray) (W : World) (s : Int × Int) (w : World) (h : Rs g S W s w) (m : Nat) (hm : m ≤ 12) :
    Calls Try.prog 38 #[.int .i64 m, .func (.func 39) #[.pointer (some ⟨g, 0, none⟩)] #[]] w (FillEnds g S W s m w) := by
  have hgw : g < w.heap.size := h.rd.lt
  have h1 := h.again (Below.refl _ _)
  obtain ⟨ig, hig, hz0, hz1, hz2⟩ := info_parts info_int
  have hmk : ∀ W : World, (Instr.makeSlice 34 (.int .i64 0) (.int .i64 (m : Int))).run Try.prog W = .ok (.slice (some ⟨W.heap.size, 0, none⟩) 0 m) (W.alloc (.cells (madeCells #[.int .i64 0] m) 3)) := fun W => by
    have := run_make (P := Try.prog) W 34 3 ig _ Try.underlying34 hig hz0 .i64 .i64 0 (m : Int) (by omega) (by omega) (by rw [hz2]; omega) (by omega)
    rw [hz1, Int.toNat_natCast, Int.toNat_zero, Nat.mul_one] at this
    exact this
  have hO0 := World.ownsRow_made (e := 3) (size := 1) (base := w.heap.size) w (madeCells #[.int .i64 0] m) m (Nat.le_refl _) (by simp only [maxLen]; omega) (by rw [size_madeCells, Nat.mul_one])
  have hR0 := h1.below ((Below.refl _ _).alloc (Nat.le_refl _) (.cells (madeCells #[.int .i64 0] m) 3))
  have HBK := Lib.hid (fun W2 (q : Rs g S w (rI S s m).2 W2) => h.back (Below.refl _ _) q)
  unfold FillEnds
  clear h h1
  go_enter Try.func38, Try.ntmps38
  go_wp2_with fail
  go_loopw [5, 9] (fun v i wr => ∃ k : Nat, k ≤ m ∧ i = .int .i64 k ∧ Rs g S w (rI S s k).2 wr ∧ wr.ownsRow w.heap.size 3 1 v k (icells (rI S s k).1)) (fun _ i _ => m - (intOf i).toNat)
  case atStart => exact ⟨0, by omega, rfl, hR0, hO0⟩
  case round =>
    clear hR0 hO0 hmk
    obtain ⟨k, hk, rfl, hR, hO⟩ := hrel
    by_cases hlt : k < m
    · have j1 : (k : Int) < (m : Int) := by omega
      have hst : rI S s (k + 1) = ((rI S s k).1 ++ [(askP S (rI S s k).2 3 0).2], (askP S (rI S s k).2 3 0).1) := rfl
      have HB := Lib.hid ((hR.again (Below.refl _ _)).int)
      generalize (askP S (rI S s k).2 3 0).2 = t at *
      generalize (askP S (rI S s k).2 3 0).1 = s2 at *
      have hrow := fun i (hi : u5.ownBlock = some i) => hO.lt i hi
      have HS := Lib.hid hst
      clear hst
      generalize (rI S s k).1 = L at *
      go_wp2_with (first
        | (go_at_call 39; refine HB.out.mono ?_; rintro e w4 ⟨rfl, hR4⟩
           have hO1 := own_of_block hO (fun i hi => hR4.kept.block i (hrow i hi).2 (by have := (hrow i hi).1; omega))
           have hR5 := hR.back (Below.refl _ _) hR4
           have HNB := Lib.hid (heap_alloc_new w4 (.cells #[.int .i64 t] 3))
           have hsz3 : w.heap.size ≤ (w4.alloc (.cells #[.int .i64 t] 3)).heap.size := by rw [World.size_alloc]; have := hR5.wide; omega)
        | (at_builtin; refine wpList_append_own_at _ rfl _ _ 34 rfl w.heap.size 3 ig (.int .i64 0) 1 8 Try.underlying34 hig hz0 hz1 hz2 rfl (by decide) _ k _ rfl (hO1.alloc _) ⟨w4.heap.size, 0, none⟩ 1 1 [.int .i64 t] rfl rfl (World.news_of_block (cs := #[.int .i64 t]) (t := 3) (fr := (0, 0)) HNB.out) (by simp [Value.oneCell']) (by simp only [maxLen]; omega) (by omega) hsz3 ?_; intro v7 w7 hown hg _ _; have hR7 : Rs g S w s2 w7 := (hR5.below ((Below.refl _ _).alloc (Nat.le_refl _) (.cells #[.int .i64 t] 3))).grown hgw hg (fun i e => (hrow i e).1)))
      go_roundw
      case rel => exact ⟨k + 1, by omega, by go_num, by rw [HS.out]; exact hR7, by rw [HS.out, icells_snoc]; exact hown⟩
      case measure => simp [intOf]; omega
    · have hk9 : k = m := by omega
      subst hk9
      have hl : (rI S s k).1.length = k := rp_len _ _ _
      have hO' : wr.ownsRow w.heap.size 3 1 u5 (rI S s k).1.length (icells (rI S s k).1) := by rw [hl]; exact hO
      obtain ⟨A2, c2, hv, h2, h3, h4, h5⟩ := own_ints2 hO'
      have HV := Lib.hid hv
      have j1 : ¬ (k : Int) < (k : Int) := by omega
      clear hl hv hO hO'
      go_wp2
      go_returns
      exact ⟨HBK.out _ hR, hR.kept, A2, c2, by rw [← HV.out]; rfl, ⟨h4, h2, h3⟩, h5⟩

set_option maxRecDepth 100000 in
theorem get1_any (b d g : Nat) (S : ByteArray) (W : World) (s : Int × Int) (w : World) (h : Rs g S W s w) (m : Nat) (hm : m ≤ 12) (hb : w.cell? ⟨b, 0, none⟩ = some (.int .i64 m)) (hd : w.cell? ⟨d, 0, none⟩ = some (.pointer (some ⟨g, 0, none⟩))) :
    Calls Try.prog 37 #[.pointer (some ⟨b, 0, none⟩), .pointer (some ⟨d, 0, none⟩)] w (FillEnds g S W s m w) := by
  have HF := Lib.hid (filledI_any g S W s w h m hm)
  clear h
  go_enter Try.func37, Try.ntmps37
  go_wp2_with (go_at_call 38; refine HF.out.mono ?_; rintro e w1 ⟨h1, h2, P, c, rfl, h3⟩)
  go_returns
  exact ⟨h1, h2, P, c, rfl, h3⟩

/-- The first k tests, as a package reads them. -/
abbrev rT (S : ByteArray) (s : Int × Int) (m k : Nat) : List (List Int) × (Int × Int) := rrows (fun s => askP S s 3 0) m s k
set_option maxRecDepth 100000 in
set_option maxHeartbeats 2000000 in
theorem filledT_any (b d g : Nat) (S : ByteArray) (s : Int × Int) (w : World) (h : Rs g S w s w) (n m : Nat) (hn : n ≤ 20) (hm : m ≤ 12) (hb : Blk w b 3 #[.int .i64 m]) (hd : Blk w d 50 #[.pointer (some ⟨g, 0, none⟩)]) (hbg : b ≠ g) (hdg : d ≠ g) :
    Calls Try.prog 36 #[.int .i64 n, .func (.func 37) #[] #[.pointer (some ⟨b, 0, none⟩), .pointer (some ⟨d, 0, none⟩)]] w fun e w' => Rs g S w (rT S s m n).2 w' ∧ ∃ v, e = .returned v ∧ TOwn w' w.heap.size v (rT S s m n).1 := by
  have hgw : g < w.heap.size := h.rd.lt
  obtain ⟨ig, hig, hz0, hz1, hz2⟩ := info_parts info_ints
  have hmk : ∀ W : World, (Instr.makeSlice 22 (.int .i64 0) (.int .i64 (n : Int))).run Try.prog W = .ok (.slice (some ⟨W.heap.size, 0, none⟩) 0 n) (W.alloc (.cells (madeCells #[.slice none 0 0] n) 34)) := fun W => by
    have := run_make (P := Try.prog) W 22 34 ig _ Try.underlying22 hig hz0 .i64 .i64 0 (n : Int) (by omega) (by omega) (by rw [hz2]; omega) (by omega)
    rw [hz1, Int.toNat_natCast, Int.toNat_zero, Nat.mul_one] at this
    exact this
  have hO0 : TOwn (w.alloc (.cells (madeCells #[.slice none 0 0] n) 34)) w.heap.size (.slice (some ⟨w.heap.size, 0, none⟩) 0 n) [] :=
    ⟨[], rfl, World.ownsRow_made w (madeCells #[.slice none 0 0] n) n (Nat.le_refl _) (by simp only [maxLen]; omega) (by rw [size_madeCells, Nat.mul_one]), fun y hy => by cases hy⟩
  have hR0 := h.below ((Below.refl _ _).alloc (Nat.le_refl _) (.cells (madeCells #[.slice none 0 0] n) 34))
  have HX := Lib.hid (fun (t : Int × Int) W2 (q : Rs g S w t W2) => And.intro (show W2.cell? ⟨b, 0, none⟩ = some (.int .i64 m) from (q.blk hb hbg).cell 0) (show W2.cell? ⟨d, 0, none⟩ = some (.pointer (some ⟨g, 0, none⟩)) from (q.blk hd hdg).cell 0))
  clear h hb hd
  go_enter Try.func36, Try.ntmps36
  go_wp2_with fail
  go_loopw [5, 9] (fun v i wr => ∃ k : Nat, k ≤ n ∧ i = .int .i64 k ∧ Rs g S w (rT S s m k).2 wr ∧ TOwn wr w.heap.size v (rT S s m k).1) (fun _ i _ => n - (intOf i).toNat)
  case atStart => exact ⟨0, by omega, rfl, hR0, hO0⟩
  case round =>
    clear hR0 hO0 hmk
    obtain ⟨k, hk, rfl, hR, hO⟩ := hrel
    have hlen : (rT S s m k).1.length = k := rrows_len _ _ _ _
    by_cases hlt : k < n
    · have j1 : (k : Int) < (n : Int) := by omega
      have hst : rT S s m (k + 1) = ((rT S s m k).1 ++ [(rI S (rT S s m k).2 m).1], (rI S (rT S s m k).2 m).2) := rfl
      obtain ⟨c1, c2⟩ := HX.out _ _ hR
      have HB := Lib.hid (get1_any b d g S wr (rT S s m k).2 wr (hR.again (Below.refl _ _)) m hm c1 c2)
      unfold FillEnds at HB
      generalize (rI S (rT S s m k).2 m).1 = L at *
      generalize (rI S (rT S s m k).2 m).2 = s2 at *
      have HS := Lib.hid hst
      clear hst c1 c2
      generalize (rT S s m k).1 = T at *
      have hszr := hR.wide
      have hlo := fun i hi => (hO.lt i hi)
      go_wp2_with (first
        | (go_at_call 37; refine HB.out.mono ?_; rintro e w4 ⟨hR4, hK4, P, pc, rfl, hok4, hnew⟩
           have hOT := hO.kept hK4 (fun i h1 h2 h3 => by omega)
           have hR5 := hR.back (Below.refl _ _) hR4
           have hbA : Below w4.heap.size w4 (w4.alloc (.cells #[.slice P L.length pc] 34)) := (Below.refl _ _).alloc (Nat.le_refl _) _
           have hOA := hOT.below hbA
           have bA := Blk.new w4 34 #[.slice P L.length pc]
           have hRA := hR5.below hbA
           have hok := hok4.at hbA
           have hne : L ≠ [] → ∀ ad, P = some ad → w.heap.size ≤ ad.block ∧ u5.ownBlock ≠ some ad.block := fun _ ad e => ⟨by have := hnew ad e; omega, fun z => by have := (hlo _ z).2; have := hnew ad e; omega⟩
           have hszA : w.heap.size ≤ (w4.alloc (.cells #[.slice P L.length pc] 34)).heap.size := by have := hbA.size; have := hR5.wide; omega)
        | (at_builtin; (refine append_test rfl _ _ rfl w.heap.size hszA _ T rfl hOA w4.heap.size P pc L rfl bA (by omega) hok hne ?_; intro v9 w9 hO9 hgr hat)
           have hR9 := hRA.grown hgw hgr (fun i e => (hlo i e).1))
        | fail)
      go_roundw
      case rel => exact ⟨k + 1, by omega, by go_num, by rw [HS.out]; exact hR9, by rw [HS.out]; exact hO9⟩
      case measure => simp [intOf]; omega
    · have hk9 : k = n := by omega
      subst hk9
      have j1 : ¬ (k : Int) < (k : Int) := by omega
      go_wp2
      go_returns
      exact ⟨hR, _, rfl, hO⟩

end Go.Proofs.Ytlecofghifjmcaa.Suite
