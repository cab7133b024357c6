/-
  Package path, walked: a node's path.
-/
import Derived.Test.YtjjdpjdmeeholaaPathPBelow
namespace Go.Proofs.Ytjjdpjdmeeholaa.Path
open Go.RowKit Go.Shelf Mem _root_.Go.Proofs.Ytjjdpjdmeeholaa.Arena _root_.Go.Proofs.Ytjjdpjdmeeholaa.RangeO
set_option linter.unusedVariables false

attribute [local go_sem] Oper.semAt_some

/-- What is told of a node: its place, and its path. -/
theorem fold_told2 (t : Array Value) (x y : Value) : Array.foldl (fun t (x : Nat × Value) => t.setIfInBounds x.1 x.2) t ((#[15, 16] : Array Nat).zip #[x, y]) = (t.setIfInBounds 15 x).setIfInBounds 16 y := by
  simp

theorem IRow.kept {S : Nat → Prop} {w w' : World} {A : Option Addr} {p : List Int} (h : IRow w w.heap.size A p) (k : Kept S w w') (hn : ∀ ad, A = some ad → ¬ S ad.block) : IRow w' w'.heap.size A p := by
  intro i x hx
  obtain ⟨ad, e, h1, h2⟩ := h i x hx
  refine ⟨ad, e, Nat.lt_of_lt_of_le h1 k.size, ?_⟩
  have hb : (ad.add i).block = ad.block := add_blockN ad i
  rw [← h2]
  exact k.cell (by rw [hb]; exact h1) (by rw [hb]; exact hn ad e)

/-- What the loop over the walk knows: b is none of the places that were told. -/
def J0 (w : World) (D : Nat) (b : Int) (a : Nat) (W : World) : Prop :=
  W.heap[D]? = some (.deferred (some [])) ∧ Blk W w.heap.size 3 #[.int .i64 b] ∧ Blk W (w.heap.size + 1) 23 #[.slice none 0 0] ∧ Blk W (w.heap.size + 1 + 1) 4 #[.bool false] ∧ Below w.heap.size w W ∧ ¬ (0 ≤ b ∧ b < a)
/-- Where it was left: b's path is told. -/
def X0 (w : World) (D base : Nat) (xs : List Nd) (b : Int) (W : World) : Prop :=
  W.heap[D]? = some (.deferred (some [])) ∧ Below w.heap.size w W ∧ ∃ p A c, Leads xs b p ∧ Blk W (w.heap.size + 1) 23 #[.slice A p.length c] ∧ Blk W (w.heap.size + 1 + 1) 4 #[.bool true] ∧ p.length ≤ c ∧ (A = none → c = 0) ∧ IRow W W.heap.size A p ∧ ∀ ad, A = some ad → base ≤ ad.block
theorem J0.keep {w : World} {D : Nat} {b : Int} {a : Nat} {X Y : World} {S : Nat → Prop} (h : J0 w D b a X) (k : Kept S X Y) (hS : ∀ i, S i → w.heap.size + 3 ≤ i ∧ i ≠ D) (hw : w.heap.size ≤ X.heap.size) : J0 w D b a Y := by
  obtain ⟨h1, h2, h3, h4, h5, h6⟩ := h
  refine ⟨(k.block _ (Array.getElem?_eq_some_iff.1 h1).1 (fun q => (hS _ q).2 rfl)).trans h1, h2.kept k (fun q => by have := (hS _ q).1; omega), h3.kept k (fun q => by have := (hS _ q).1; omega), h4.kept k (fun q => by have := (hS _ q).1; omega), h5.trans (k.to_below hw (fun i q => by have := (hS _ q).1; omega)), h6⟩
theorem X0.keep {w : World} {D base : Nat} {xs : List Nd} {b : Int} {X Y : World} {S : Nat → Prop} (h : X0 w D base xs b X) (k : Kept S X Y) (hS : ∀ i, S i → w.heap.size + 3 ≤ i ∧ i ≠ D ∧ i < base) (hw : w.heap.size ≤ X.heap.size) : X0 w D base xs b Y := by
  obtain ⟨h1, h2, p, A, c, h3, h4, h5, h6, h7, h8, h9⟩ := h
  exact ⟨(k.block _ (Array.getElem?_eq_some_iff.1 h1).1 (fun q => (hS _ q).2.1 rfl)).trans h1, h2.trans (k.to_below hw (fun i q => by have := (hS _ q).1; omega)), p, A, c, h3, h4.kept k (fun q => by have := (hS _ q).1; omega), h5.kept k (fun q => by have := (hS _ q).1; omega), h6, h7, IRow.kept h8 k (fun ad e q => by have := h9 ad e; have := (hS _ q).2.2; omega), h9⟩

set_option maxRecDepth 100000 in
set_option maxHeartbeats 4000000 in
theorem Of_whole (A : Option Addr) (cap : Nat) (xs : List Nd) (b : Int) (w : World) (hx : Nodes w w.heap.size A xs) (hl : xs.length ≤ 1000000) (hw : Whole xs) :
    CallsIn Fence.wide 5 Try.prog 9 #[.slice A xs.length cap, .int .i64 b] w (PathEnds xs b w) := by
  have HE := Lib.hid (fun W hW => whole_any A cap xs W hW hl)
  rw [show (aend xs 0 == (xs.length : Int)) = true by rw [show aend xs 0 = xs.length from hw]; simp] at HE
  have HW := Lib.hid hw
  have HX := Lib.hid hx
  have hf1 : Fence.wide.fn 18 := trivial
  clear hw
  refine callsIn_of_wp_marks Try.func9 rfl trivial ?_ rfl
  simp only [Try.ntmps9, List.size_toArray, List.length_cons, List.length_nil, Nat.reduceAdd, Nat.reduceSub, Array.replicate_succ, Array.replicate_zero, List.push_toArray, List.append_toArray, List.nil_append, List.cons_append]
  have hB0 : Below w.heap.size w (((w.alloc (.cells #[.int .i64 b] 3)).alloc (.cells #[.slice none 0 0] 23)).alloc (.cells #[.bool false] 4)) := (((Below.refl _ _).alloc (Nat.le_refl _) _).alloc (by simp) _).alloc (by simp; omega) _
  gi_wp2_with (gi_at_call 18; refine ((callsIn_wide (n := 4)).2 (HE.out _ (Nodes.at HX.out hB0))).mono ?_; rintro e w1 ⟨rfl, hb1⟩)
  have hsz1 := hb1.size
  have hB1 : Below w.heap.size w w1 := hB0.trans (hb1.mono hB0.size)
  have s0 : (((w.alloc (.cells #[.int .i64 b] 3)).alloc (.cells #[.slice none 0 0] 23)).alloc (.cells #[.bool false] 4)).heap.size = w.heap.size + 3 := by simp
  rw [s0] at hsz1
  have b1 := (((Blk.new w 3 #[.int .i64 b]).alloc (.cells #[.slice none 0 0] 23)).alloc (.cells #[.bool false] 4)).below hb1 (by rw [s0]; omega)
  have b2 := ((Blk.new (w.alloc (.cells #[.int .i64 b] 3)) 23 #[.slice none 0 0]).alloc (.cells #[.bool false] 4)).below hb1 (by simp)
  have b3 := (Blk.new ((w.alloc (.cells #[.int .i64 b] 3)).alloc (.cells #[.slice none 0 0] 23)) 4 #[.bool false]).below hb1 (by simp)
  rw [World.size_alloc] at b2 b3
  rw [World.size_alloc] at b3
  have hx1 := hx.below hB1
  have bG := Blk.new w1 39 #[.slice A xs.length cap, .int .i64 0, .slice none 0 0, .bool false]
  have ba := (Below.refl w1.heap.size w1).alloc (Nat.le_refl _) (.cells #[.slice A xs.length cap, .int .i64 0, .slice none 0 0, .bool false] 39)
  have b1 := b1.below ba (by omega)
  have b2 := b2.below ba (by omega)
  have b3 := b3.below ba (by omega)
  have hx2 := hx1.below (ba.mono (by omega))
  have hB2 := hB1.trans (ba.mono hB1.size)
  have hs2 : (w1.alloc (.cells #[.slice A xs.length cap, .int .i64 0, .slice none 0 0, .bool false] 39)).heap.size = w1.heap.size + 1 := World.size_alloc _ _
  generalize (w1.alloc (.cells #[.slice A xs.length cap, .int .i64 0, .slice none 0 0, .bool false] 39)) = w2 at *
  have hle : w1.heap.size + 1 ≤ w2.heap.size ∧ w2.heap.size ≤ w1.heap.size + 1 := by omega
  clear ba hb1 hB1 hB0 s0 hx1 hx HE hs2
  refine wpIn_rangeFunc_open rfl (by omega) (gf := 19) (fb := #[.pointer (some ⟨w1.heap.size, 0, none⟩)]) (lb := #[]) rfl trivial (enters_of Try.func19 (by kernel_rfl) rfl)
    (J0 w w2.heap.size b xs.length) (fun c W => c = .ret ∧ X0 w w2.heap.size (w2.heap.size + 2) xs b W) ?calls ?done ?stop
  case calls =>
    intro fn W hfn hbW hsW hD hL
    obtain ⟨rec, hrec⟩ := recd_name hL
    simp only [← hrec] at hL ⊢
    have hb2 := hB2.size
    have hΦ : ∀ k, (k = w.heap.size + 1 ∨ k = w.heap.size + 1 + 1 ∨ k = w2.heap.size + 1) → k ≠ w1.heap.size ∧ k < w2.heap.size + 2 ∧ w.heap.size ≤ k := by
      rintro k (rfl | rfl | rfl)
      · exact ⟨by omega, by omega, by omega⟩
      · exact ⟨by omega, by omega, by omega⟩
      · exact ⟨by omega, by omega, by omega⟩
    have hJ00 : J0 w w2.heap.size b 0 W := ⟨hD, b1.below hbW (by omega), b2.below hbW (by omega), b3.below hbW (by omega), hB2.trans (hbW.mono hb2), by omega⟩
    have bG' := bG.below hbW (by omega)
    have hxW := hx2.below (hbW.mono hb2)
    refine CallsIn.mono (below_in w1.heap.size (w2.heap.size + 2) (w2.heap.size + 1) w.heap.size A cap xs hl HW.out (by omega) (by omega) (fun k => k = w.heap.size + 1 ∨ k = w.heap.size + 1 + 1 ∨ k = w2.heap.size + 1) hΦ
      (fun a W' => W'.heap[w2.heap.size + 1]? = some (.loop (rec .ready none)) ∧ J0 w w2.heap.size b a W')
      (fun W' => W'.heap[w2.heap.size + 1]? = some (.loop (rec .done (some .ret))) ∧ X0 w w2.heap.size (w2.heap.size + 2) xs b W')
      ?hJ ?hJx ?hY xs.length 0 [] W HW.out.t (leads_0 HW.out) ⟨_, bG', World.ownsRow_nil _ _ _ _⟩ hxW (by omega) ⟨hL, hJ00⟩) ?fin
    case hJ =>
      rintro a X Y ⟨h1, h2⟩ hk
      have := h2.2.2.2.2.1.size
      exact ⟨(hk.block _ (Array.getElem?_eq_some_iff.1 h1).1 (by omega)).trans h1, h2.keep hk (fun i q => by omega) this⟩
    case hJx =>
      rintro X Y ⟨h1, h2⟩ hk
      have := h2.2.1.size
      exact ⟨(hk.block _ (Array.getElem?_eq_some_iff.1 h1).1 (by omega)).trans h1, h2.keep hk (fun i q => by omega) this⟩
    case fin =>
      rintro e W' ⟨rfl, hK, lf, nx, hS, hf, ht⟩
      refine ⟨⟨_, rfl⟩, ?_⟩
      cases lf with
      | false =>
        obtain ⟨rfl, h1, h2⟩ := hf rfl
        rw [Nat.zero_add] at h2
        exact ⟨h2.1, .inl ⟨h1, h2⟩⟩
      | true =>
        obtain ⟨h1, h2⟩ := ht rfl
        exact ⟨h2.1, .inr ⟨_, h1, rfl, h2⟩⟩
    case hY =>
      rintro a p A' c Y ha hp ⟨hlY, hJY⟩ hpc hpn hpr hpb
      rw [hrec] at hlY
      refine yieldAt_of hlY hfn rfl (Go_ := fun W3 => J0 w w2.heap.size b (a + 1 : Nat) W3 ∧ Kept (fun k => k = w.heap.size + 1 ∨ k = w.heap.size + 1 + 1 ∨ k = w2.heap.size + 1) Y W3) (St := fun c W3 => c = .ret ∧ X0 w w2.heap.size (w2.heap.size + 2) xs b W3 ∧ Kept (fun k => k = w.heap.size + 1 ∨ k = w.heap.size + 1 + 1 ∨ k = w2.heap.size + 1) Y W3) ?_ ?ygo ?yst
      case ygo =>
        rintro W1 W2 ⟨h1, h2⟩ hk hr
        have := h1.2.2.2.2.1.size
        exact ⟨true, rfl, h2.trans (hk.mono (fun k q => .inr (.inr q))), fun _ => ⟨by rw [hrec]; exact hr, h1.keep hk (fun i q => by omega) this⟩, fun h => by cases h⟩
      case yst =>
        rintro c W1 W2 ⟨rfl, h1, h2⟩ hk hr
        have := h1.2.1.size
        exact ⟨false, rfl, h2.trans (hk.mono (fun k q => .inr (.inr q))), (fun h => by cases h), fun _ => ⟨by rw [hrec]; exact hr, h1.keep hk (fun i q => by omega) this⟩⟩
      rw [fold_told2]
      simp only [List.setIfInBounds_toArray, List.set_cons_succ, List.set_cons_zero]
      have HJY := Lib.hid hJY
      have HP := Lib.hid hp
      have HR := Lib.hid hpr
      clear hJY hp hpr hJ00 bG' hxW hlY hL hD hx2 b1 b2 b3 bG
      gi_wp2
      try refine ⟨rfl, ?_⟩
      intro Y2 hk2 hs2 hbusy
      have hJ2 := HJY.out.keep hk2 (fun i q => by omega) HJY.out.2.2.2.2.1.size
      obtain ⟨hD2, d1, d2, d3, hB2', hn2⟩ := hJ2
      have hk2' : Kept (fun k => k = w.heap.size + 1 ∨ k = w.heap.size + 1 + 1 ∨ k = w2.heap.size + 1) Y Y2 := hk2.mono (fun k q => .inr (.inr q))
      have c1 := d1.cell 0
      have c2 := d2.cell 0
      have f2 := d2.frozen 0
      by_cases he : (a : Int) = b
      · have e1 : ((a : Int) == b) = true := by rw [he]; simp
        have hR2 := IRow.kept HR.out hk2 (fun ad e q => by have := hpb ad e; omega)
        have k1 := (Kept.refl (fun k => k = w.heap.size + 1 ∨ k = w.heap.size + 1 + 1 ∨ k = w2.heap.size + 1) Y2).setCell (p := ⟨w.heap.size + 1, 0, none⟩) (.inl (.inl rfl)) (.slice A' p.length c)
        have d21 := d2.set 0 (.slice A' p.length c)
        have d31 := d3.apart (p := ⟨w.heap.size + 1, 0, none⟩) (by show w.heap.size + 1 + 1 ≠ w.heap.size + 1; omega) (.slice A' p.length c)
        have c3 := d31.cell 0
        have f3 := d31.frozen 0
        have k3 := k1.setCell (p := ⟨w.heap.size + 1 + 1, 0, none⟩) (.inl (.inr (.inl rfl))) (.bool true)
        have d22 := d21.apart (p := ⟨w.heap.size + 1 + 1, 0, none⟩) (by show w.heap.size + 1 ≠ w.heap.size + 1 + 1; omega) (.bool true)
        have d32 := d31.set 0 (.bool true)
        have HX0 := Lib.hid (show X0 w w2.heap.size (w2.heap.size + 2) xs b ((Y2.setCell ⟨w.heap.size + 1, 0, none⟩ (.slice A' p.length c)).setCell ⟨w.heap.size + 1 + 1, 0, none⟩ (.bool true)) from
          ⟨(k3.block _ (Array.getElem?_eq_some_iff.1 hD2).1 (by omega)).trans hD2, hB2'.trans (k3.to_below hB2'.size (fun i q => by omega)), p, A', c, he ▸ HP.out, d22, d32, hpc, hpn, IRow.kept hR2 k3 (fun ad e q => by have := hpb ad e; omega), hpb⟩)
        have HK3 := Lib.hid (hk2'.trans k3)
        have hbu := (Below.heap_setCell _ ⟨w.heap.size + 1 + 1, 0, none⟩ (Value.bool true) _ (by show w2.heap.size + 1 ≠ w.heap.size + 1 + 1; omega)).trans ((Below.heap_setCell Y2 ⟨w.heap.size + 1, 0, none⟩ (.slice A' p.length c) _ (by show w2.heap.size + 1 ≠ w.heap.size + 1; omega)).trans hbusy)
        clear d1 d2 d3 d21 d31 d22 d32 k1 k3 hR2 hk2 hk2' hD2 hB2' hn2 hs2
        gi_wp2
        exact ⟨hbu, rfl, HX0.out, HK3.out⟩
      · have e1 : ((a : Int) == b) = false := by rw [beq_eq_false_iff_ne]; exact he
        have HG := Lib.hid (show J0 w w2.heap.size b (a + 1 : Nat) Y2 from ⟨hD2, d1, d2, d3, hB2', by omega⟩)
        clear d1 d2 d3 hD2 hB2' hn2
        gi_wp2
        exact ⟨hbusy, HG.out, hk2'⟩
  case done =>
    intro W W' hJ hk hD
    have hJ' := hJ.keep hk (fun i q => by omega) hJ.2.2.2.2.1.size
    obtain ⟨-, d1, d2, d3, hB, hn⟩ := hJ'
    have HN := Lib.hid (not_in (l := xs) (b := b) (by omega))
    have hlt := d3.lt
    have c2 := d2.cell 0
    have f2 := d2.frozen 0
    have d21 := d2.set 0 (.slice none 0 0)
    have d31 := d3.apart (p := ⟨w.heap.size + 1, 0, none⟩) (by show w.heap.size + 1 + 1 ≠ w.heap.size + 1; omega) (.slice none 0 0)
    have c3 := d31.cell 0
    have f3 := d31.frozen 0
    have d22 := d21.apart (p := ⟨w.heap.size + 1 + 1, 0, none⟩) (by show w.heap.size + 1 ≠ w.heap.size + 1 + 1; omega) (.bool false)
    have d32 := d31.set 0 (.bool false)
    have hB3 := (hB.setCell (p := ⟨w.heap.size + 1, 0, none⟩) (by show w.heap.size ≤ w.heap.size + 1; omega) (.slice none 0 0)).setCell (p := ⟨w.heap.size + 1 + 1, 0, none⟩) (by show w.heap.size ≤ w.heap.size + 1 + 1; omega) (.bool false)
    have hD3 := (Below.heap_setCell _ ⟨w.heap.size + 1 + 1, 0, none⟩ (Value.bool false) _ (by show w2.heap.size ≠ w.heap.size + 1 + 1; omega)).trans ((Below.heap_setCell W' ⟨w.heap.size + 1, 0, none⟩ (.slice none 0 0) _ (by show w2.heap.size ≠ w.heap.size + 1; omega)).trans hD)
    have e22 := (d22.apartObj (l := w2.heap.size) (by omega) (.deferred none)).cell 0
    have e32 := (d32.apartObj (l := w2.heap.size) (by omega) (.deferred none)).cell 0
    have HB := Lib.hid (hB3.trans (belowK_b (w := w) (Nat.le_refl _) _ w2.heap.size _ (.deferred none) (by omega) hD3 rfl rfl))
    clear d1 d2 d3 d21 d31 d22 d32 hB hJ hk hB3
    gi_wp2
    refine ⟨by simp, .inl ⟨_, _, rfl, run_takeDeferred hD3, ?_⟩⟩
    refine ⟨.tuple #[.slice none 0 0, .bool false], ?_, HB.out, .inr ⟨HN.out, none, 0, rfl⟩⟩
    rw [show ((#[Value.slice none 0 0] : Array Value).setIfInBounds 0 (.slice none 0 0))[0]? = some (.slice none 0 0) from rfl] at e22
    rw [show ((#[Value.bool false] : Array Value).setIfInBounds 0 (.bool false))[0]? = some (.bool false) from rfl] at e32
    simp [results, Try.results9, go_sem, e22, e32]
  case stop =>
    rintro c W W' ⟨rfl, hJ⟩ hk hD
    have hJ' := hJ.keep hk (fun i q => by omega) hJ.2.1.size
    obtain ⟨-, hB, p, A', c', hp, d2, d3, hpc, hpn, hpr, hpb⟩ := hJ'
    have hlt := d3.lt
    have e2 := (d2.apartObj (l := w2.heap.size) (by omega) (.deferred none)).cell 0
    have e3 := (d3.apartObj (l := w2.heap.size) (by omega) (.deferred none)).cell 0
    have kD := kept_putObj W' w2.heap.size (.deferred none)
    have hR2 := IRow.kept hpr kD (fun ad e q => by have := hpb ad e; omega)
    have HB := Lib.hid (hB.trans (belowK_b (w := w) (Nat.le_refl _) _ w2.heap.size _ (.deferred none) (by omega) hD rfl rfl))
    clear d2 d3 hB hJ hk
    refine wpIn_ret ?_
    gi_wp2
    refine ⟨by simp, .inl ⟨_, _, rfl, run_takeDeferred hD, ?_⟩⟩
    refine ⟨.tuple #[.slice A' p.length c', .bool true], ?_, HB.out, .inl ⟨p, A', c', hp, rfl, hpc, hpn, hR2⟩⟩
    rw [show (#[Value.slice A' p.length c'] : Array Value)[0]? = some (.slice A' p.length c') from rfl] at e2
    rw [show (#[Value.bool true] : Array Value)[0]? = some (.bool true) from rfl] at e3
    simp [results, Try.results9, go_sem, e2, e3]

set_option maxRecDepth 100000 in
theorem Of_any (A : Option Addr) (cap : Nat) (xs : List Nd) (b : Int) (w : World) (hx : Nodes w w.heap.size A xs) (hl : xs.length ≤ 1000000) :
    Calls Try.prog 9 #[.slice A xs.length cap, .int .i64 b] w (PathEnds xs b w) := by
  by_cases hw : Whole xs
  · exact (callsIn_wide (n := 5)).1 (Of_whole A cap xs b w hx hl hw)
  · refine (callsIn_wide (n := 5)).1 ?_
    have HE := Lib.hid (fun W hW => whole_any A cap xs W hW hl)
    rw [show (aend xs 0 == (xs.length : Int)) = false by rw [beq_eq_false_iff_ne]; exact hw] at HE
    have HN := Lib.hid (not_whole hw b)
    have HX := Lib.hid hx
    have hf1 : Fence.wide.fn 18 := trivial
    clear hw hx
    refine callsIn_of_wp_marks Try.func9 rfl trivial ?_ rfl
    simp only [Try.ntmps9, List.size_toArray, List.length_cons, List.length_nil, Nat.reduceAdd, Nat.reduceSub, Array.replicate_succ, Array.replicate_zero, List.push_toArray, List.append_toArray, List.nil_append, List.cons_append]
    have hB0 : Below w.heap.size w (((w.alloc (.cells #[.int .i64 b] 3)).alloc (.cells #[.slice none 0 0] 23)).alloc (.cells #[.bool false] 4)) := (((Below.refl _ _).alloc (Nat.le_refl _) _).alloc (by simp) _).alloc (by simp; omega) _
    have s0 : (((w.alloc (.cells #[.int .i64 b] 3)).alloc (.cells #[.slice none 0 0] 23)).alloc (.cells #[.bool false] 4)).heap.size = w.heap.size + 3 := by simp
    have b2 := (Blk.new (w.alloc (.cells #[.int .i64 b] 3)) 23 #[.slice none 0 0]).alloc (.cells #[.bool false] 4)
    have b3 := Blk.new ((w.alloc (.cells #[.int .i64 b] 3)).alloc (.cells #[.slice none 0 0] 23)) 4 #[.bool false]
    rw [World.size_alloc] at b2 b3
    rw [World.size_alloc] at b3
    have HB0 := Lib.hid hB0
    have HB2 := Lib.hid b2
    have HB3 := Lib.hid b3
    have HS0 := Lib.hid s0
    clear hB0 b2 b3 s0
    gi_wp2_with (gi_at_call 18; refine ((callsIn_wide (n := 4)).2 (HE.out _ (Nodes.at HX.out HB0.out))).mono ?_; rintro e w1 ⟨rfl, hb1⟩
                 have hB1 := HB0.out.trans (hb1.mono HB0.out.size)
                 have d2 := HB2.out.below hb1 HB2.out.lt
                 have d3 := HB3.out.below hb1 HB3.out.lt
                 have c2 := d2.cell 0
                 have f2 := d2.frozen 0
                 have d31 := d3.apart (p := ⟨w.heap.size + 1, 0, none⟩) (by show w.heap.size + 1 + 1 ≠ w.heap.size + 1; omega) (.slice none 0 0)
                 have c3 := d31.cell 0
                 have f3 := d31.frozen 0
                 have D22 := Lib.hid (((d2.set 0 (.slice none 0 0)).apart (p := ⟨w.heap.size + 1 + 1, 0, none⟩) (by show w.heap.size + 1 ≠ w.heap.size + 1 + 1; omega) (.bool false)).cell 0)
                 have D32 := Lib.hid ((d31.set 0 (.bool false)).cell 0)
                 clear d2 d3 d31)
    have e22 := D22.out
    have e32 := D32.out
    have hB3 := (hB1.setCell (p := ⟨w.heap.size + 1, 0, none⟩) (by show w.heap.size ≤ w.heap.size + 1; omega) (.slice none 0 0)).setCell (p := ⟨w.heap.size + 1 + 1, 0, none⟩) (by show w.heap.size ≤ w.heap.size + 1 + 1; omega) (.bool false)
    refine ⟨.tuple #[.slice none 0 0, .bool false], ?_, hB3, .inr ⟨HN.out, none, 0, rfl⟩⟩
    rw [show ((#[Value.slice none 0 0] : Array Value).setIfInBounds 0 (.slice none 0 0))[0]? = some (.slice none 0 0) from rfl] at e22
    rw [show ((#[Value.bool false] : Array Value).setIfInBounds 0 (.bool false))[0]? = some (.bool false) from rfl] at e32
    simp [results, Try.results9, go_sem, e22, e32]

end Go.Proofs.Ytjjdpjdmeeholaa.Path
