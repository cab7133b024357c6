/-
  Package container, walked: what is opened.
-/
import Derived.Test.YtfjdbbhaigjbmaaGreatContTell
import Derived.Test.YtfjdbbhaigjbmaaGreatContDoor
import Derived.Maps.OwnIn
namespace Go.Proofs.YtfjdbbhaigjbmaaGreat.Cont
open Go.RowKit Go.Shelf Leb Mem _root_.Go.Proofs.YtfjdbbhaigjbmaaGreat.Frame _root_.Go.Proofs.YtfjdbbhaigjbmaaGreat.RangeP

attribute [local go_sem] Oper.semAt_some

theorem oks_inj {a b : List Sec} (h : oks a = oks b) : a = b := by
  unfold oks at h
  exact List.map_inj_right (fun _ _ e => congrArg Prod.fst e) |>.1 h
theorem Told.last {S : List UInt8} {l : List Sec} {x : Sec × Int} (h : Told S (oks l ++ [x])) : ∃ (q : Int) (a : Nat), Upto S S.length a l ∧ a < S.length ∧ fget S a = (x.1, q, x.2) ∧ l.length ≤ a := by
  obtain ⟨pre, y, c, q, a, he, h1, h2, h3, h4⟩ := h
  obtain ⟨e1, e2⟩ := List.append_inj' he rfl
  obtain rfl := oks_inj e1
  simp only [List.cons.injEq, and_true] at e2
  subst e2
  exact ⟨q, a, h1, h2, h3, h4⟩
theorem Done.oks {S : List UInt8} {l : List Sec} (h : Done S (oks l)) : gets S S.length 7 = some l := by
  rcases h with ⟨pre, e, h⟩ | ⟨pre, x, c, e, hc⟩
  · obtain rfl := oks_inj e
    exact h
  · exfalso
    have hm : (x, c) ∈ Cont.oks l := by rw [e]; simp
    unfold Cont.oks at hm
    obtain ⟨y, -, hy⟩ := List.mem_map.1 hm
    exact hc (congrArg Prod.snd hy).symm

/-- What open comes to: sections, or it gives up. -/
def OpensOr (l : List UInt8) (w : World) (e : Ending) (w' : World) : Prop :=
  Below w.heap.size w w' ∧ ((openC l).2 = 0 → ∃ (A : Option Addr) (cap : Nat) (ys : List Sect), (openC l).1 = secs ys ∧ e = .returned (.slice A ys.length cap) ∧ Sects w' w'.heap.size A ys ∧ (A = none → ys = [])) ∧
    ((openC l).2 ≠ 0 → e = .panicked (gone (openC l).2))
theorem OpensOr.no {l : List UInt8} {w w' : World} {c : Int} (h : openC l = ([], c)) (hc : c ≠ 0) (hb : Below w.heap.size w w') : OpensOr l w (.panicked (gone c)) w' :=
  ⟨hb, fun hz => absurd (by rw [h] at hz; exact hz) hc, fun _ => by rw [h]⟩
theorem OpensOr.ok {l : List UInt8} {w w' : World} {A : Option Addr} {cap : Nat} {ys : List Sect} (h : openC l = (secs ys, 0)) (hb : Below w.heap.size w w') (hs : Sects w' w'.heap.size A ys) (hn : A = none → ys = []) : OpensOr l w (.returned (.slice A ys.length cap)) w' :=
  ⟨hb, fun _ => ⟨A, cap, ys, by rw [h], rfl, hs, hn⟩, fun hz => absurd (by rw [h]) hz⟩

/-- The sections so far lie in a row that the call owns; its slice lies in N. -/
def Rows (w0 : World) (N : Nat) (pre : List (Sec × Int)) (Φ : Nat → Prop) (W : World) : Prop :=
  ∃ (ys : List Sect) (v : Value), pre = oks (secs ys) ∧ Φ = (fun k => k = N ∨ v.ownBlock = some k) ∧ Blk W N 22 #[v] ∧ W.ownsRow w0.heap.size 34 2 v ys.length (scells ys) ∧ (∀ x ∈ ys, x.d.size ≤ 1048576) ∧ Below w0.heap.size w0 W ∧ w0.heap.size ≤ N
theorem Rows.lt {w0 : World} {N : Nat} (s : List (Sec × Int)) (Φ : Nat → Prop) (X : World) (h : Rows w0 N s Φ X) : ∀ k, Φ k → k < X.heap.size := by
  obtain ⟨ys, v, -, rfl, h2, h3, -⟩ := h
  rintro k (rfl | hk)
  · exact h2.lt
  · exact (h3.lt k hk).2
theorem Rows.kept {w0 : World} {N : Nat} (s : List (Sec × Int)) (Φ : Nat → Prop) (X Y : World) (l : Nat) (hl : w0.heap.size ≤ l) (hn : ¬ Φ l) (h : Rows w0 N s Φ X) (hK : Kept (· = l) X Y) : Rows w0 N s Φ Y := by
  obtain ⟨ys, v, h1, rfl, h2, h3, h4, h5, h6⟩ := h
  exact ⟨ys, v, h1, rfl, h2.kept hK (fun e => hn (.inl e.symm)), own_of_block h3 (fun i hi => hK.block i (h3.lt i hi).2 (fun e => hn (e ▸ .inr hi))), h4, h5.trans (hK.to_below h5.size (fun k e => by omega)), h6⟩

theorem sects_put {W : World} {B : Nat} {A : Option Addr} {ys : List Sect} (D : Nat) (o : Obj) (h : Sects W B A ys) (hB : B ≤ W.heap.size) (hne : ∀ ad, A = some ad → ¬ ad.block = D) : Sects (W.putObj D o) B A ys := by
  have hK := kept_putObj W D o
  intro i x hx
  obtain ⟨ad, e, h1, h2, h3, h4⟩ := h i x hx
  have hn := hne ad e
  have hb : (ad.add (i * 2)).block = ad.block := add_blockS _ _
  refine ⟨ad, e, h1, h2, (hK.cell (by rw [hb]; omega) (by rw [hb]; exact hn)).trans h3, ?_⟩
  exact (hK.cell (p := ⟨(ad.add (i * 2)).block, (ad.add (i * 2)).off + 1, none⟩) (by show (ad.add (i * 2)).block < _; rw [hb]; omega) (by show ¬ (ad.add (i * 2)).block = _; rw [hb]; exact hn)).trans h4

/-- A frame was none. -/
def Gone8 (u : ByteArray) (w0 : World) (ch : List PanicEntry) (W : World) : Prop := ch = gone 8 ∧ gets u.data.toList u.data.toList.length 7 = none ∧ Below w0.heap.size w0 W

set_option maxRecDepth 100000 in
set_option maxHeartbeats 2000000 in
theorem open_late (s : ByteArray) (hs : s.size ≤ 1048576) (hm : marks s.data.toList = true) (n : Nat) (hn : num ((s.data.toList.drop (s.data.toList.length - 8)).take 4) = n) (h7 : 7 ≤ n) (h8 : n + 8 ≤ s.size) (w : World) :
    Calls Tryz.prog 29 #[.string s] w (OpensOr s.data.toList w) := by
  have hlen := len_of s
  have c1 : ((s.size : Int) ≤ 1048576) := by omega
  have m8 : IntKind.i64.wrap ((s.size : Int) - 8) = (s.size : Int) - 8 := IntWalk.i64_in _ (by omega)
  have j1 : (0 : Int) ≤ (s.size : Int) - 8 := by omega
  have j2 : (s.size : Int) - 8 ≤ (s.size : Int) := by omega
  have j4 : ((s.size : Int) - 8).toNat = s.size - 8 := by omega
  obtain ⟨N8, hN8⟩ : ∃ U, s.extract (s.size - 8) s.size = U := ⟨_, rfl⟩
  have hx8 := extract_str s (s.size - 8) s.size
  rw [hN8, List.take_of_length_le (by rw [List.length_drop, len_of]; omega)] at hx8
  have hN8s : N8.size = 8 := by rw [← hN8, ByteArray.size_extract]; omega
  have HNum := Lib.hid (fun W => p_number_any N8 (by omega) (by omega) W)
  rw [show N8.data.toList = s.data.toList.drop (s.data.toList.length - 8) by rw [hx8, str_list, hlen], hn] at HNum
  have HM := Lib.hid (fun W => p_marked_any s (by omega) W)
  rw [hm] at HM
  have n7 : (7 : Int) ≤ (n : Int) := by omega
  have n8 : (n : Int) ≤ (s.size : Int) - 8 := by omega
  have i0 : (0 : Int) ≤ (n : Int) := by omega
  have i1 : (n : Int) ≤ (s.size : Int) := by omega
  obtain ⟨u, hu⟩ : ∃ u, s.extract 0 n = u := ⟨_, rfl⟩
  have hxu := extract_str s 0 n
  rw [hu, List.drop_zero, Nat.sub_zero] at hxu
  have hul : u.data.toList = s.data.toList.take n := by rw [hxu, str_list]
  have hus : u.size = n := by rw [← len_of, hul, List.length_take, len_of]; omega
  have HU := Lib.hid hul
  have HUS := Lib.hid hus
  have k1 : ¬ 1048576 < s.data.toList.length := by omega
  have k2 : ¬ (s.data.toList.length < 15 ∨ s.data.toList.take 7 ≠ magic ∨ s.data.toList.drop (s.data.toList.length - 4) ≠ theEnd) := by
    simp only [marks, Bool.and_eq_true, decide_eq_true_iff] at hm
    rintro (h | h | h)
    · omega
    · exact h hm.2.1
    · exact h hm.2.2
  have c5 : ¬ (n < 7 ∨ s.data.toList.length - 8 < n) := by omega
  have E8 := Lib.hid (fun h => open_frame k1 k2 hn c5 h)
  have E20 := Lib.hid (fun r h => open_order (r := r) k1 k2 hn c5 h)
  have E9 := Lib.hid (fun r h => open_index (r := r) k1 k2 hn c5 h)
  have E0 := Lib.hid (fun r h => open_ok (r := r) k1 k2 hn c5 h)
  have EL := Lib.hid (fun (ys : List Sect) => lim_of_gets (l := s.data.toList) (n := n) (ys := ys) (by omega) (by omega) h7)
  have EU := Lib.hid (show gets u.data.toList u.data.toList.length 7 = gets (s.data.toList.take n) n 7 by rw [hul, List.length_take, hlen, show min n s.size = n by omega])
  clear k1 k2 c5
  have HSS := Lib.hid hs
  clear hx8 hN8s hm hxu hul hus hn hs
  refine (callsIn_wide (n := 4)).1 ?_
  refine callsIn_of_at Tryz.func29 rfl trivial ?_ rfl
  simp only [Tryz.ntmps29, List.size_toArray, List.length_cons, List.length_nil, Nat.reduceAdd, Nat.reduceSub, Array.replicate_succ, Array.replicate_zero, List.push_toArray, List.append_toArray, List.nil_append, List.cons_append]
  have hf0 : Fence.wide.fn 43 := trivial
  have hf1 : Fence.wide.fn 32 := trivial
  have hf2 : Fence.wide.fn 44 := trivial
  have hf3 : Fence.wide.fn 45 := trivial
  refine At.seq trivial (At.of trivial ?_)
  gi_wp2
  refine At.seq trivial (At.of trivial ?_)
  gi_wp2_with (gi_at_call 32; with_reducible refine ((callsIn_wide (n := 3)).2 (must_true 4 _)).mono ?_; rintro e w2 ⟨rfl, rfl⟩)
  refine At.seq trivial (At.of trivial ?_)
  gi_wp2_with (first
    | (gi_at_call 43; with_reducible refine ((callsIn_wide (n := 3)).2 (HM.out _)).mono ?_; rintro e w2 ⟨rfl, rfl⟩)
    | (gi_at_call 32; with_reducible refine ((callsIn_wide (n := 3)).2 (must_true 7 _)).mono ?_; rintro e w2 ⟨rfl, rfl⟩))
  refine At.seq trivial (At.of trivial ?_)
  gi_wp2
  refine At.seq trivial (At.of trivial ?_)
  gi_wp2_with (gi_at_call 44; with_reducible refine ((callsIn_wide (n := 3)).2 (HNum.out _)).mono ?_; rintro e w1 ⟨rfl, hb1⟩)
  refine At.seq trivial (At.of trivial ?_)
  gi_wp2_with (gi_at_call 32; with_reducible refine ((callsIn_wide (n := 3)).2 (must_true 9 _)).mono ?_; rintro e w2 ⟨rfl, rfl⟩)
  refine At.seq trivial (At.of trivial ?_)
  gi_wp2
  refine At.seq trivial (At.seq trivial (At.of trivial ?_))
  have hB2 := hb1.alloc hb1.size (.cells #[.slice none 0 0] 22)
  have bL := Blk.new w1 22 #[.slice none 0 0]
  have hsz2 : w1.heap.size < (w1.alloc (.cells #[.slice none 0 0] 22)).heap.size := bL.lt
  have hw1 := hb1.size
  clear hb1
  generalize w1.alloc (.cells #[.slice none 0 0] 22) = w2 at *
  gi_wp2_with (gi_at_call 45; with_reducible refine ((callsIn_wide (n := 3)).2 (frames_any u _)).mono ?_; rintro e w3 ⟨rfl, rfl⟩)
  have hBS := (Below.refl w2.heap.size w2).alloc (Nat.le_refl _) (.cells #[.string u] 9)
  have hB3 := hB2.trans (hBS.mono hB2.size)
  have bS := Blk.new w2 9 #[.string u]
  have bL3 := bL.alloc (.cells #[.string u] 9)
  have hN3 : w1.heap.size < (w2.alloc (.cells #[.string u] 9)).heap.size := bL3.lt
  have hNS : w1.heap.size < w2.heap.size := hsz2
  obtain ⟨ig, hig, hz0, hz1, hz2⟩ := info_parts info_sec
  refine At.block trivial (At.rangeFunc rfl (by omega) trivial ⟨_, Tryz.func29⟩ (gf := 59) rfl trivial (enters_of Tryz.func59 (by kernel_rfl) rfl)
    (frames1_tells w2.heap.size u (by rw [HUS.out]; have := HSS.out; omega) _ bS.lt (bS.cell 0)) (fun _ => rfl)
    (Rows w w1.heap.size) (fun _ => Gone8 u w) (fun k => k = w1.heap.size ∨ (Value.slice none 0 0).ownBlock = some k) ?hIs ?hI ?h0 ?hOwn ?hOwn2 ?hround ?hdone ?hdie)
  case hIs => exact Rows.lt
  case hI => exact fun s Φ X Y l hl' => Rows.kept s Φ X Y l (Nat.le_trans hB3.size hl')
  case h0 => exact ⟨[], .slice none 0 0, rfl, rfl, bL3, World.ownsRow_nil _ _ _ _, by simp, hB3, hw1⟩
  case hOwn =>
    rintro k (rfl | h) h2
    · omega
    · simp [Value.ownBlock] at h
  case hOwn2 => rintro k rfl; exact bS.lt
  case hdie =>
    rintro D ch pre W hD hlt hG ⟨rfl, hg, hB⟩ hK
    have hE := E8.out (EU.out ▸ hg)
    refine ⟨by simp, .inl ⟨_, _, rfl, run_takeDeferred hK, ?_⟩⟩
    exact OpensOr.no hE (by decide) (hB.trans (belowK_b (w := w) (Nat.le_refl _) W D _ _ (by have := hB3.size; omega) hK rfl rfl))
  case hround =>
    rintro l pre x Φ W hl1 hl2 hΦ ⟨ys, v, rfl, rfl, bV, hO, hsz, hB, hwN⟩ hG
    obtain ⟨q, a, hup, hlt, hr, hyl⟩ := hG.last
    obtain ⟨⟨⟨t, d⟩, c⟩, rfl⟩ : ∃ y, y = x := ⟨_, rfl⟩
    simp only at hr
    rw [fold_told3]
    simp only [List.setIfInBounds_toArray, List.set_cons_succ, List.set_cons_zero]
    obtain ⟨A, cap, rfl⟩ := Wire.owns_form hO
    obtain ⟨D, hD⟩ : ∃ D, str d = D := ⟨_, rfl⟩
    rw [hD]
    have bX := Blk.new W 34 #[.int .i64 t, .string D]
    have hBX := (Below.refl W.heap.size W).alloc (Nat.le_refl _) (.cells #[.int .i64 t, .string D] 34)
    have hB5 := hB.trans (hBX.mono hB.size)
    have bV5 := bV.alloc (.cells #[.int .i64 t, .string D] 34)
    have hO5 := hO.alloc (.cells #[.int .i64 t, .string D] 34)
    have hlw : w.heap.size ≤ l := Nat.le_of_lt (Nat.lt_of_le_of_lt hB3.size hl1)
    have hNl : ¬ w1.heap.size = l := fun e => hΦ (.inl e.symm)
    have hrl : ∀ i, (Value.slice A ys.length cap).ownBlock = some i → ¬ i = l := fun i hi e => hΦ (.inr (e ▸ hi))
    have hrw : ∀ i, (Value.slice A ys.length cap).ownBlock = some i → i < W.heap.size := fun i hi => (hO.lt i hi).2
    have hn20 : n ≤ 1048576 := by omega
    have hul : u.data.toList.length = n := by rw [len_of, HUS.out]
    by_cases hc0 : c = 0
    · subst hc0
      obtain ⟨g1, g2, g3, g4, g5, g6, g7⟩ := fget_only u.data.toList a (by rw [hr])
      rw [hr] at g6
      simp only at g6
      have hDs : D.size ≤ 1048576 := by rw [← hD, str_size]; exact g6
      have HSN := Lib.hid (show oks (secs (ys ++ [⟨t, D⟩])) = oks (secs ys) ++ [((t, d), 0)] by rw [← hD, secs_snoc, oks_snoc])
      have hyl2 : ys.length ≤ 1048576 := by rw [secs_len] at hyl; omega
      clear hr hup g1 g2 g3 g4 g5 g6 g7 hD hG hyl hlt hul
      gi_wp2
      intro W2 hK2 hs2
      have bX2 := bX.kept hK2 (by omega)
      have bV2 := bV5.kept hK2 hNl
      have hO2 := own_of_block hO5 (fun i hi => hK2.block i (by rw [World.size_alloc]; have := hrw i hi; omega) (hrl i hi))
      have hB6 := hB5.trans (hK2.to_below hB5.size (fun k e => by omega))
      have cV := bV2.cell 0
      obtain ⟨k0, k1⟩ := bX2.two
      have hnew := heap_alloc_new W2 (.cells #[.int .i64 t, .string D] 34)
      have HNB := Lib.hid hnew
      have hO3 := hO2.alloc (.cells #[.int .i64 t, .string D] 34)
      have hs6 : w.heap.size ≤ (W2.alloc (.cells #[.int .i64 t, .string D] 34)).heap.size := by rw [World.size_alloc]; have := hB6.size; omega
      have HS2 := Lib.hid hs2
      clear hBX bX bV5 hO5 hB5 hK2 hnew hs2
      gi_wp2_with (first
        | (gi_at_call 32; with_reducible refine (CallsIn.inRound l ((callsIn_wide (n := 1)).2 (must_true 8 _))).mono ?_; rintro e w5 ⟨rfl, rfl⟩)
        | (gi_at_builtin; refine wpListIn_append_own_at _ rfl _ _ 22 rfl w.heap.size 34 ig (.agg #[.int .i64 0, .string ⟨#[]⟩]) 2 24 Tryz.underlying22 hig hz0 hz1 hz2 rfl (by decide) _ ys.length _ rfl hO3 ⟨W2.heap.size, 0, none⟩ 1 1 [.int .i64 t, .string D] rfl rfl (World.news_of_block (cs := #[.int .i64 t, .string D]) (t := 34) (fr := (0, 0)) HNB.out) (by simp [Value.oneCell']) (by simp only [maxLen]; omega) (by omega) hs6 ?_; intro v7 w7 hown hg _ hat; obtain ⟨A7, c7, rfl⟩ := Wire.owns_form hown; obtain ⟨hv1, hv2, hr2, -, hb2⟩ := Boxed.appended (t := 22) (show Boxed W2 w1.heap.size 22 (.slice A ys.length cap) from bV2) (by decide) hO2 hB6.size hwN hown hg; have hcN := hv1.cell; have hfN := hv1.frozen))
      have hKa : Kept (fun k => k = w1.heap.size ∨ (Value.slice A ys.length cap).ownBlock = some k) W2 (w7.setCell ⟨w1.heap.size, 0, none⟩ (.slice A7 (ys.length + 1) c7)) :=
        (((Kept.refl _ W2).alloc _).grown hg (fun k e => .inl (.inr e))).setCell (p := ⟨w1.heap.size, 0, none⟩) (.inl (.inl rfl)) _
      refine ⟨hKa, fun k => k = w1.heap.size ∨ (Value.slice A7 (ys.length + 1) c7).ownBlock = some k, ⟨ys ++ [⟨t, D⟩], .slice A7 (ys.length + 1) c7, HSN.out.symm, rfl, hv2, ?_, ?_, hB6.trans hb2, hwN⟩, ?_⟩
      · rw [List.length_append, scells_snoc]
        exact hr2
      · intro x hx
        rcases List.mem_append.1 hx with h | h
        · exact hsz x h
        · simp at h; rw [h]; exact hDs
      · have := HS2.out
        rintro k (rfl | hk)
        · exact .inl (.inl rfl)
        · rcases hat with h | h
          · exact .inl (.inr (h.symm.trans hk))
          · rw [hk, World.size_alloc] at h
            simp only [Option.some.injEq] at h
            exact .inr (by omega)
    · have hbad := hup.bad hlt (by rw [hr]; exact hc0)
      have hcb : (c == 0) = false := by simpa using hc0
      clear hr hup hD hG hyl hlt hul
      gi_wp2
      intro W2 hK2 hs2
      have hB6 := hB5.trans (hK2.to_below hB5.size (fun k e => by omega))
      clear hBX bX bV5 hO5 hB5
      gi_wp2_with (gi_at_call 32; with_reducible refine (CallsIn.inRound l ((callsIn_wide (n := 1)).2 (must_false 8 _))).mono ?_; rintro e w5 ⟨rfl, rfl⟩)
      exact ⟨rfl, Kept.refl _ _, rfl, hbad, hB6⟩
  case hdone =>
    rintro D ys' Φ W hD hlt hΦ hdn ⟨ys, v, rfl, rfl, bV, hO, hsz, hB, -⟩ hK
    have hg := hdn.oks
    obtain ⟨A, cap, rfl, hSec, hnil⟩ := sects_of_own hO (fun x hx => by have := hsz x hx; omega)
    have hg2 := EU.out ▸ hg
    have hl := EL.out ys hg2
    have hDW : w.heap.size ≤ D := by have := hB3.size; omega
    have cV := bV.cell 0
    have HOR := Lib.hid (p_ordered_any A cap ys W hSec (by have := hl.1; unfold maxLen; omega))
    have hf4 : Fence.wide.fn 33 := trivial
    by_cases ho : ord (secs ys) = false
    · have hE := Lib.hid (E20.out _ hg2 ho)
      rw [ho] at HOR
      refine At.seq trivial (At.of trivial ?_)
      gi_wp2_with (first
        | (gi_at_call 33; with_reducible refine ((callsIn_wide (n := 3)).2 HOR.out).mono ?_; rintro e w5 ⟨rfl, hb5⟩)
        | (gi_at_call 32; with_reducible refine ((callsIn_wide (n := 3)).2 (must_false 20 _)).mono ?_; rintro e w6 ⟨rfl, rfl⟩))
      have hK5 := (hb5.block D hlt).trans hK
      have hB5 := hB.trans (hb5.mono hB.size)
      refine ⟨by simp, .inl ⟨_, _, rfl, run_takeDeferred hK5, ?_⟩⟩
      exact OpensOr.no hE.out (by decide) (hB5.trans (belowK_b (w := w) (Nat.le_refl _) w5 D _ _ hDW hK5 rfl rfl))
    · have ho' : ord (secs ys) = true := by simpa using ho
      rw [ho'] at HOR
      have HEN := Lib.hid (fun W h => ending_any A cap ys W h hl)
      have hV := extract_str s n s.size
      rw [List.take_of_length_le (by rw [List.length_drop, len_of]; omega)] at hV
      obtain ⟨V, hVV⟩ : ∃ V, s.extract n s.size = V := ⟨_, rfl⟩
      rw [hVV] at hV
      have hVl : V.toList = s.data.toList.drop n := by rw [hV, ByteArray.toList_eq, str_list]
      have hn7 : 7 + (body (secs ys)).length = n := by
        have ht : (s.data.toList.take n).length = n := by rw [List.length_take]; omega
        obtain ⟨h1, -⟩ := gets_only n (s.data.toList.take n) 7 (secs ys) (by omega) (by omega) hg2
        have h2 := congrArg List.length h1
        rw [List.length_drop, ht] at h2
        omega
      obtain ⟨E, hEE⟩ : ∃ E, str (behind (secs ys)) = E := ⟨_, rfl⟩
      have hEl : E.toList = index (secs ys) ++ Crc.tail (index (secs ys)) ++ foot n := by rw [← hEE, ByteArray.toList_eq, str_list]; unfold behind; rw [hn7]
      rw [hEE] at HEN
      have hEn : (V.toList = E.toList ∧ openC s.data.toList = (secs ys, 0)) ∨ (V.toList ≠ E.toList ∧ openC s.data.toList = ([], 9)) := by
        rw [hVl, hEl]
        by_cases hi : s.data.toList.drop n = index (secs ys) ++ Crc.tail (index (secs ys)) ++ foot n
        · exact .inl ⟨hi, E0.out _ hg2 ho' hi⟩
        · exact .inr ⟨hi, E9.out _ hg2 ho' hi⟩
      clear hV hVl hn7 hEE hEl ho ho' hg hg2 hdn
      refine At.seq trivial (At.of trivial ?_)
      gi_wp2_with (first
        | (gi_at_call 33; with_reducible refine ((callsIn_wide (n := 3)).2 HOR.out).mono ?_; rintro e w5 ⟨rfl, hb5⟩)
        | (gi_at_call 32; with_reducible refine ((callsIn_wide (n := 3)).2 (must_true 20 _)).mono ?_; rintro e w6 ⟨rfl, rfl⟩))
      have hK5 := (hb5.block D hlt).trans hK
      have hlt5 := Nat.lt_of_lt_of_le hlt hb5.size
      have hB5 := (hB.trans (hb5.mono hB.size)).drew
      have hSec5 : Sects w5.drew w5.drew.heap.size A ys := Sects.at hSec hb5.drew
      have bV5 : Blk w5.drew w1.heap.size 22 #[.slice A ys.length cap] := bV.below hb5.drew bV.lt
      have hK6 : w5.drew.heap[D]? = some (.deferred (some [])) := hK5
      have k0 : w5.drew.cell? ⟨w1.heap.size, 0, none⟩ = some (.slice A ys.length cap) := bV5.cell 0
      clear hSec hb5 bV hO cV hB
      refine At.seq trivial (At.of trivial (wpIn_wide.2 ?_))
      rcases hEn with ⟨hi, hE⟩ | ⟨hi, hE⟩
      · have HE := Lib.hid hE
        have hbq : (V.toList == E.toList) = true := by rw [beq_iff_eq]; exact hi
        clear hi hE
        refine wp_dies [{ target := .collected D, args := #[] }] (fun _ _ => False) (fun _ _ _ _ h => h.elim) ?_
        refine wp_region_held_drew (S := fun w' => w'.cell? ⟨w1.heap.size, 0, none⟩ = some (.slice A ys.length cap)) (by kernel_rfl) k0 (fun hHeld => ?_)
        refine wpAnyH_take (i := 0) (oi := ⟨some 46, _, _, _, _, none⟩) (v := ?_) rfl (by kernel_rfl) (by kernel_rfl) (by kernel_rfl) (fun _ _ _ h => h) (Or.inl ⟨by rfl, ?_⟩) (by assumption) ?_
        rotate_left
        · intro w hSw; (try dsimp only at hSw); go_simp; try with_reducible rfl
        try simp only [Act.put, List.setIfInBounds_toArray, List.set_cons_zero, List.set_cons_succ]
        refine wpAnyH_take (i := 1) (oi := ⟨some 47, _, _, _, _, none⟩) (v := ?_) rfl (by kernel_rfl) (by kernel_rfl) (by kernel_rfl) (fun _ _ _ h => h) (Or.inl ⟨by rfl, ?_⟩) (by assumption) ?_
        rotate_left
        · intro w hSw; (try dsimp only at hSw); go_simp; try with_reducible rfl
        try simp only [Act.put, List.setIfInBounds_toArray, List.set_cons_zero, List.set_cons_succ]
        refine wpAnyH_take (i := 2) (oi := ⟨some 48, _, _, _, _, none⟩) (v := ?_) rfl (by kernel_rfl) (by kernel_rfl) (by kernel_rfl) (fun _ _ _ h => h) (Or.inl ⟨by rfl, ?_⟩) (by assumption) ?_
        rotate_left
        · intro w hSw; (try dsimp only at hSw); go_simp; try with_reducible rfl
        try simp only [Act.put, List.setIfInBounds_toArray, List.set_cons_zero, List.set_cons_succ]
        refine wpAnyH_take (i := 3) (oi := ⟨some 49, _, _, _, _, none⟩) (v := ?_) rfl (by kernel_rfl) (by kernel_rfl) (by kernel_rfl) (fun _ _ _ h => h) (Or.inl ⟨by rfl, ?_⟩) (by assumption) ?_
        rotate_left
        · intro w hSw; (try dsimp only at hSw); go_simp; try with_reducible rfl
        try simp only [Act.put, List.setIfInBounds_toArray, List.set_cons_zero, List.set_cons_succ]
        refine wpAnyH_ready (rs := [4]) (by kernel_rfl) (by simp) ?_
        refine AllReadyH.cons (o := ⟨some 50, _, _, _, _, none⟩) rfl (fun K hK => ?_) AllReadyH.nil
        go_simp
        go_at_call 34
        with_reducible refine (HEN.out _ hSec5).mono ?_
        rintro e w6 ⟨rfl, hb6⟩; have k0 := (hb6.cell (p := ⟨w1.heap.size, 0, none⟩) bV5.lt).trans k0
        go_wp2_with fail
        refine hK.out _ _ k0 (fun hHeld => ?_)
        clear hK K
        try simp only [Act.put, List.setIfInBounds_toArray, List.set_cons_zero, List.set_cons_succ]
        refine wpAnyH_take (i := 5) (oi := ⟨some 51, _, _, _, _, none⟩) (v := ?_) rfl (by kernel_rfl) (by kernel_rfl) (by kernel_rfl) (fun _ _ _ h => h) (Or.inl ⟨by rfl, ?_⟩) (by assumption) ?_
        rotate_left
        · intro w hSw; (try dsimp only at hSw); go_simp; try with_reducible rfl
        try simp only [Act.put, List.setIfInBounds_toArray, List.set_cons_zero, List.set_cons_succ]
        refine wpAnyH_ready (rs := [6]) (by kernel_rfl) (by simp) ?_
        refine AllReadyH.cons (o := ⟨some 52, _, _, _, _, none⟩) rfl (fun K hK => ?_) AllReadyH.nil
        go_simp
        go_at_call 32
        with_reducible refine (must_true 9 _).mono ?_
        rintro e w7 ⟨rfl, rfl⟩
        go_wp2_with fail
        refine hK.out _ _ k0 (fun hHeld => ?_)
        clear hK K
        try simp only [Act.put, List.setIfInBounds_toArray, List.set_cons_zero, List.set_cons_succ]
        refine wpAnyH_done (by kernel_rfl) ?_ _
        refine Dies.normal ?_
        have bV6 := bV5.below hb6 bV5.lt
        have cV := bV6.cell 0
        have hK7 := (hb6.block D hlt5).trans hK6
        have hB7 := hB5.trans (hb6.mono hB5.size)
        have hSec7 := Sects.at hSec5 hb6
        clear hSec5 hb6 bV5 k0
        refine At.of trivial ?_
        gi_wp2
        refine ⟨by simp, .inl ⟨_, _, rfl, run_takeDeferred hK7, ?_⟩⟩
        refine ⟨_, results_tmp rfl _ _ _, ?_⟩
        refine OpensOr.ok HE.out (hB7.trans (belowK_b (w := w) (Nat.le_refl _) w6 D _ _ hDW hK7 rfl rfl)) ?_ hnil
        rw [show (w6.putObj D (.deferred none)).heap.size = w6.heap.size by simp [World.putObj]]
        exact sects_put D _ hSec7 (Nat.le_refl _) (fun ad e h => hΦ (.inr (by rw [e, ← h]; rfl)))
      · have HE := Lib.hid hE
        have hbq : (V.toList == E.toList) = false := by rw [beq_eq_false_iff_ne]; exact hi
        clear hi hE
        refine wp_dies [{ target := .collected D, args := #[] }] (fun ch W => ch = gone 9 ∧ W.heap[D]? = some (.deferred (some [])) ∧ Below w.heap.size w W) (fun ch a W hd h => ?_) ?_
        · obtain ⟨rfl, hKW, hBW⟩ := h
          show LeavesInM _ _ _ _ a.tmps _ a.defers _ W
          rw [hd]
          refine ⟨by simp, .inl ⟨_, _, rfl, run_takeDeferred hKW, ?_⟩⟩
          exact OpensOr.no HE.out (by decide) (hBW.trans (belowK_b (w := w) (Nat.le_refl _) W D _ _ hDW hKW rfl rfl))
        refine wp_region_held_drew (S := fun w' => w'.cell? ⟨w1.heap.size, 0, none⟩ = some (.slice A ys.length cap)) (by kernel_rfl) k0 (fun hHeld => ?_)
        refine wpAnyH_take (i := 0) (oi := ⟨some 46, _, _, _, _, none⟩) (v := ?_) rfl (by kernel_rfl) (by kernel_rfl) (by kernel_rfl) (fun _ _ _ h => h) (Or.inl ⟨by rfl, ?_⟩) (by assumption) ?_
        rotate_left
        · intro w hSw; (try dsimp only at hSw); go_simp; try with_reducible rfl
        try simp only [Act.put, List.setIfInBounds_toArray, List.set_cons_zero, List.set_cons_succ]
        refine wpAnyH_take (i := 1) (oi := ⟨some 47, _, _, _, _, none⟩) (v := ?_) rfl (by kernel_rfl) (by kernel_rfl) (by kernel_rfl) (fun _ _ _ h => h) (Or.inl ⟨by rfl, ?_⟩) (by assumption) ?_
        rotate_left
        · intro w hSw; (try dsimp only at hSw); go_simp; try with_reducible rfl
        try simp only [Act.put, List.setIfInBounds_toArray, List.set_cons_zero, List.set_cons_succ]
        refine wpAnyH_take (i := 2) (oi := ⟨some 48, _, _, _, _, none⟩) (v := ?_) rfl (by kernel_rfl) (by kernel_rfl) (by kernel_rfl) (fun _ _ _ h => h) (Or.inl ⟨by rfl, ?_⟩) (by assumption) ?_
        rotate_left
        · intro w hSw; (try dsimp only at hSw); go_simp; try with_reducible rfl
        try simp only [Act.put, List.setIfInBounds_toArray, List.set_cons_zero, List.set_cons_succ]
        refine wpAnyH_take (i := 3) (oi := ⟨some 49, _, _, _, _, none⟩) (v := ?_) rfl (by kernel_rfl) (by kernel_rfl) (by kernel_rfl) (fun _ _ _ h => h) (Or.inl ⟨by rfl, ?_⟩) (by assumption) ?_
        rotate_left
        · intro w hSw; (try dsimp only at hSw); go_simp; try with_reducible rfl
        try simp only [Act.put, List.setIfInBounds_toArray, List.set_cons_zero, List.set_cons_succ]
        refine wpAnyH_ready (rs := [4]) (by kernel_rfl) (by simp) ?_
        refine AllReadyH.cons (o := ⟨some 50, _, _, _, _, none⟩) rfl (fun K hK => ?_) AllReadyH.nil
        go_simp
        go_at_call 34
        with_reducible refine (HEN.out _ hSec5).mono ?_
        rintro e w6 ⟨rfl, hb6⟩; have k0 := (hb6.cell (p := ⟨w1.heap.size, 0, none⟩) bV5.lt).trans k0
        go_wp2_with fail
        refine hK.out _ _ k0 (fun hHeld => ?_)
        clear hK K
        try simp only [Act.put, List.setIfInBounds_toArray, List.set_cons_zero, List.set_cons_succ]
        refine wpAnyH_take (i := 5) (oi := ⟨some 51, _, _, _, _, none⟩) (v := ?_) rfl (by kernel_rfl) (by kernel_rfl) (by kernel_rfl) (fun _ _ _ h => h) (Or.inl ⟨by rfl, ?_⟩) (by assumption) ?_
        rotate_left
        · intro w hSw; (try dsimp only at hSw); go_simp; try with_reducible rfl
        try simp only [Act.put, List.setIfInBounds_toArray, List.set_cons_zero, List.set_cons_succ]
        refine wpAnyH_ready (rs := [6]) (by kernel_rfl) (by simp) ?_
        refine AllReadyH.cons (o := ⟨some 52, _, _, _, _, none⟩) rfl (fun K hK => ?_) AllReadyH.nil
        go_simp
        go_at_call 32
        with_reducible refine (must_false 9 _).mono ?_
        rintro e w7 ⟨rfl, rfl⟩
        exact ⟨rfl, rfl, (hb6.block D hlt5).trans hK6, hB5.trans (hb6.mono hB5.size)⟩

end Go.Proofs.YtfjdbbhaigjbmaaGreat.Cont
