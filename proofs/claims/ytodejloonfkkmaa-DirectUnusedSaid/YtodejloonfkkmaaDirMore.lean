/-
  A variable more, that is not used, makes no difference (plain).
-/
import Derived.Test.YtodejloonfkkmaaMachG
set_option linter.unusedVariables false
namespace Go.Proofs.Ytodejloonfkkmaa.Mach
open _root_.Go.Proofs.Ytodejloonfkkmaa.Arena _root_.Go.Proofs.Ytodejloonfkkmaa.Kinds

/-- A state with a variable more. -/
def St.ext (s : St) (z : List Int) : St := { s with vals := s.vals ++ [0], arrs := s.arrs ++ [z] }
/-- What does the same with a variable more. -/
def Ext (vs z : List Int) (m : Sem) : Prop := ∀ s, WT vs s → s.over = false → m (s.ext z) = ((m s).1.ext z, (m s).2)
section
variable {vs z : List Int}
theorem ext_stop (s : St) (k v : Int) : (s.ext z).stop k v = (s.stop k v).ext z := by
  unfold St.stop
  show (if s.over = true then _ else _) = _
  split <;> rfl
theorem ext_pure (v : Int) : Ext vs z (pureM v) := fun s _ _ => rfl
theorem ext_stopM (k v : Int) : Ext vs z (stopM k v) := fun s _ _ => by
  show ((s.ext z).stop k v, (0 : Int)) = _
  rw [ext_stop]; rfl
theorem getD_app {α : Type} (l : List α) (x d : α) {i : Nat} (h : i < l.length) : (l ++ [x]).getD i d = l.getD i d := by
  rw [List.getD_eq_getElem?_getD, List.getD_eq_getElem?_getD, List.getElem?_append_left h]
theorem set_app {α : Type} (l : List α) (x y : α) {i : Nat} (h : i < l.length) : (l ++ [x]).set i y = l.set i y ++ [x] := List.set_append_left _ _ h
theorem ext_getV {i : Int} (h0 : 0 ≤ i) (h : i < vs.length) : Ext vs z (getV i) := fun s hs _ => by
  have := hs.nv
  show (s.ext z, (s.vals ++ [0]).getD i.toNat 0) = _
  rw [getD_app _ _ _ (by omega)]; rfl
theorem ext_setV {i v : Int} (h0 : 0 ≤ i) (h : i < vs.length) : Ext vs z (setV i v) := fun s hs _ => by
  have := hs.nv
  show (({ s.ext z with vals := (s.vals ++ [0]).set i.toNat v, ev := s.ev ++ [(i, -1, v)] } : St), (0 : Int)) = _
  rw [set_app _ _ _ (by omega)]; rfl
theorem arr_ext {s : St} {i : Int} (h : i.toNat < s.arrs.length) : arr (s.ext z) i = arr s i := by
  show (s.arrs ++ [z]).getD i.toNat [] = _
  rw [getD_app _ _ _ h]; rfl
theorem ext_getA {i a : Int} (h0 : 0 ≤ i) (h : i < vs.length) : Ext vs z (getA i a) := fun s hs _ => by
  have := hs.na
  have e := arr_ext (z := z) (s := s) (i := i) (by omega)
  unfold getA
  rw [e]
  by_cases q : a < 0 ∨ ((arr s i).length : Int) ≤ a
  · rw [if_pos q, if_pos q, ext_stop]
  · rw [if_neg q, if_neg q]
theorem ext_setA {i a b : Int} (h0 : 0 ≤ i) (h : i < vs.length) : Ext vs z (setA i a b) := fun s hs _ => by
  have := hs.na
  have e := arr_ext (z := z) (s := s) (i := i) (by omega)
  unfold setA
  rw [e]
  by_cases q : a < 0 ∨ ((arr s i).length : Int) ≤ a
  · rw [if_pos q, if_pos q, ext_stop]
  · rw [if_neg q, if_neg q]
    show (({ s.ext z with arrs := (s.arrs ++ [z]).set i.toNat ((arr s i).set a.toNat b), ev := s.ev ++ [(i, a, b)] } : St), (0 : Int)) = _
    rw [set_app _ _ _ (by omega)]; rfl
theorem ext_bind {k : Int} {m : Sem} {c : Int → Sem} (hm : Ext vs z m) (hs : Sound vs k m) (hc : ∀ a, Of1 k a → Ext vs z (c a)) : Ext vs z (bindM m c) := fun s hw ho => by
  have e := hm s hw ho
  obtain ⟨h1, h2⟩ := hs s hw ho
  by_cases hv : (m s).1.over = true
  · rw [bind_over hv, bind_over (by rw [e]; exact hv), e]
  · have hv : (m s).1.over = false := by simpa using hv
    rw [bind_on hv, bind_on (by rw [e]; exact hv), e]
    exact hc _ (h2 hv) _ h1 hv
theorem ext_enter {b : Sem} (hb : Ext vs z b) : Ext vs z (enterM b) := fun s hw ho => by
  by_cases h0 : s.fuel = 0
  · rw [enter_out ho h0, enter_out (s := s.ext z) ho h0]; rfl
  · rw [enter_on ho h0, enter_on (s := s.ext z) ho h0]
    exact hb s.tick hw.tick ho
theorem ext_seq : ∀ l : List Sem, (∀ m ∈ l, Ext vs z m ∧ ∃ j, Sound vs j m) → Ext vs z (seqM l)
  | [], _ => ext_pure 0
  | m :: l, h => by
    obtain ⟨h1, j, h2⟩ := h m (List.mem_cons_self ..)
    exact ext_bind h1 h2 fun a _ => ext_seq l fun q hq => h q (List.mem_cons_of_mem _ hq)
theorem ext_loop {k j : Int} {c b : Sem} (hc : Ext vs z c) (hcs : Sound vs k c) (hb : Ext vs z b) (hbs : Sound vs j b) : ∀ n, Ext vs z (loopM c b n)
  | 0 => ext_pure 0
  | n + 1 => ext_enter (ext_bind hc hcs fun a _ => by
    by_cases h : a = 1
    · rw [if_pos h]; exact ext_bind hb hbs fun _ _ => ext_loop hc hcs hb hbs n
    · rw [if_neg h]; exact ext_pure 0)
theorem ext_while {k j : Int} {c b : Sem} (hc : Ext vs z c) (hcs : Sound vs k c) (hb : Ext vs z b) (hbs : Sound vs j b) : Ext vs z (whileM c b) := fun s hw ho => by
  rw [while_on ho, while_on (s := s.ext z) ho]
  exact ext_loop hc hcs hb hbs _ s hw ho
theorem ext_bin (t a b : Int) : Ext vs z (bin t a b) := by
  unfold bin
  repeat' split
  all_goals first
    | exact ext_pure _
    | exact ext_stopM _ _
/-- EACH NODE OF A TYPED PROGRAM does the same with a variable more. -/
theorem ext_mean {l : List Nd} (hall : ∀ k n : Nat, scan 1 (l.drop k) = some n → 0 ≤ okind vs l k) (m : Nat) : ∀ (k n : Nat), l.length - k ≤ m → scan 1 (l.drop k) = some n → Ext vs z (mean l k) := by
  induction m with
  | zero =>
    intro k n hm h
    obtain ⟨x, hx, -⟩ := mean_kids h
    have := (List.getElem?_eq_some_iff.1 hx).1
    omega
  | succ m ih =>
    intro k n hm h
    obtain ⟨t, N, hx, e, hl, hc⟩ := typed_cases h (hall k n h)
    have hk : ∀ q ∈ akids l k, Ext vs z (mean l q) ∧ Sound vs (okind vs l q) (mean l q) := fun q hq => by
      obtain ⟨q1, q2, q3⟩ := kids_in h q hq
      obtain ⟨j, rfl⟩ := Int.eq_ofNat_of_zero_le (show 0 ≤ q by omega)
      rcases aend_cases l (j : Int) with w | ⟨k', n', ek, hs, -, -⟩
      · omega
      · obtain rfl : j = k' := by omega
        exact ⟨ih j n' (by omega) hs, sound_mean hall _ j n' (Nat.le_refl _) hs⟩
    have vr : ∀ i : Int, 0 ≤ vtyp vs i → 0 ≤ i ∧ i < vs.length := fun i hi => ⟨(vtyp_nat hi).1, (vtyp_nat hi).2.1⟩
    have az : ∀ i : Int, 0 < asz (vtyp vs i) → 0 ≤ vtyp vs i := fun i hi => by unfold asz at hi; split at hi <;> omega
    rw [e]
    have nd : t ≠ 24 → ∀ ks, Ext vs z (innerM (t, N) ks) → Ext vs z (nodeM (t, N) ks) := fun n24 ks hi => by
      unfold nodeM
      rw [if_neg n24]
      exact ext_enter hi
    unfold Cases at hc
    rcases hc with ht | ⟨ht, hv⟩ | ht | ht | ⟨ht, hv, q, hq⟩ | ⟨ht, q, hq⟩ | ⟨ht1, ht2, q, q2, hq⟩ | ⟨ht, q, q2, hq⟩ | ⟨ht, q, q2, hq⟩ | ⟨ht, hv, q, hq⟩ | ⟨ht, hv, q, q2, hq⟩ | ⟨ht, q, q2, q3, hq, hk1⟩ | ⟨ht, q, q2, hq, hk1⟩ | ⟨ht, q, hq⟩
    · refine nd (by omega) _ ?_
      unfold innerM
      simp only
      rw [if_pos ht]; exact ext_pure _
    · refine nd (by omega) _ ?_
      obtain ⟨r1, r2⟩ := vr N (by omega)
      unfold innerM
      simp only
      rw [if_neg (by omega), if_pos ht]; exact ext_getV r1 r2
    · refine nd (by omega) _ ?_
      unfold innerM
      simp only
      rw [if_neg (by omega), if_neg (by omega), if_pos ht]; exact ext_pure _
    · refine nd (by omega) _ ?_
      unfold innerM
      simp only
      rw [if_neg (by omega), if_neg (by omega), if_neg (by omega), if_pos ht]
      exact ext_seq _ fun m hm => by
        obtain ⟨q, hq, rfl⟩ := List.mem_map.1 hm
        exact ⟨(hk q hq).1, _, (hk q hq).2⟩
    · have h1 := hk q (by rw [hq]; exact List.mem_cons_self ..)
      obtain ⟨r1, r2⟩ := vr N (az N hv)
      rw [hq, List.map_cons, List.map_nil]
      refine nd (by omega) _ ?_
      rw [inner_kid (by omega) (by omega) (by omega) (by omega) (by omega)]
      refine ext_bind h1.1 h1.2 fun a _ => ?_
      unfold behindM
      simp only
      rw [if_pos ht]; exact ext_getA r1 r2
    · have h1 := hk q (by rw [hq]; exact List.mem_cons_self ..)
      rw [hq, List.map_cons, List.map_nil]
      refine nd (by omega) _ ?_
      rw [inner_kid (by omega) (by omega) (by omega) (by omega) (by omega)]
      refine ext_bind h1.1 h1.2 fun a _ => ?_
      rcases ht with rfl | rfl
      · exact ext_pure _
      · exact ext_pure _
    · have h1 := hk q (by rw [hq]; exact List.mem_cons_self ..)
      have h2 := hk q2 (by rw [hq]; exact List.mem_cons_of_mem _ (List.mem_cons_self ..))
      rw [hq, List.map_cons, List.map_cons, List.map_nil]
      refine nd (by omega) _ ?_
      rw [inner_kid (by omega) (by omega) (by omega) (by omega) (by omega)]
      refine ext_bind h1.1 h1.2 fun a _ => ?_
      rw [behind_two (by omega) (by omega) (by omega) (by omega) (by omega) (by omega) (by omega) (by omega)]
      refine ext_bind h2.1 h2.2 fun b _ => ?_
      rw [if_neg (by omega)]
      exact ext_bin _ _ _
    · have h1 := hk q (by rw [hq]; exact List.mem_cons_self ..)
      have h2 := hk q2 (by rw [hq]; exact List.mem_cons_of_mem _ (List.mem_cons_self ..))
      rw [hq, List.map_cons, List.map_cons, List.map_nil]
      refine nd (by omega) _ ?_
      rw [inner_kid (by omega) (by omega) (by omega) (by omega) (by omega)]
      refine ext_bind h1.1 h1.2 fun a _ => ?_
      subst ht
      by_cases ha : a = 0
      · subst ha; exact ext_pure _
      · have : behindM (18, N) [mean l q, mean l q2] a = mean l q2 := by unfold behindM; simp only; rw [if_neg (by decide), if_neg (by decide), if_neg (by decide), if_pos trivial, if_neg ha]; rfl
        rw [this]; exact h2.1
    · have h1 := hk q (by rw [hq]; exact List.mem_cons_self ..)
      have h2 := hk q2 (by rw [hq]; exact List.mem_cons_of_mem _ (List.mem_cons_self ..))
      rw [hq, List.map_cons, List.map_cons, List.map_nil]
      refine nd (by omega) _ ?_
      rw [inner_kid (by omega) (by omega) (by omega) (by omega) (by omega)]
      refine ext_bind h1.1 h1.2 fun a _ => ?_
      subst ht
      by_cases ha : a = 1
      · subst ha; exact ext_pure _
      · have : behindM (19, N) [mean l q, mean l q2] a = mean l q2 := by unfold behindM; simp only; rw [if_neg (by decide), if_neg (by decide), if_neg (by decide), if_neg (by decide), if_pos trivial, if_neg ha]; rfl
        rw [this]; exact h2.1
    · have h1 := hk q (by rw [hq]; exact List.mem_cons_self ..)
      obtain ⟨r1, r2⟩ := vr N (by omega)
      rw [hq, List.map_cons, List.map_nil]
      refine nd (by omega) _ ?_
      rw [inner_kid (by omega) (by omega) (by omega) (by omega) (by omega)]
      refine ext_bind h1.1 h1.2 fun a _ => ?_
      subst ht
      exact ext_setV r1 r2
    · have h1 := hk q (by rw [hq]; exact List.mem_cons_self ..)
      have h2 := hk q2 (by rw [hq]; exact List.mem_cons_of_mem _ (List.mem_cons_self ..))
      obtain ⟨r1, r2⟩ := vr N (az N hv)
      rw [hq, List.map_cons, List.map_cons, List.map_nil]
      refine nd (by omega) _ ?_
      rw [inner_kid (by omega) (by omega) (by omega) (by omega) (by omega)]
      refine ext_bind h1.1 h1.2 fun a _ => ?_
      rw [behind_two (by omega) (by omega) (by omega) (by omega) (by omega) (by omega) (by omega) (by omega)]
      refine ext_bind h2.1 h2.2 fun b _ => ?_
      rw [if_pos ht]
      exact ext_setA r1 r2
    · have h1 := hk q (by rw [hq]; exact List.mem_cons_self ..)
      have h2 := hk q2 (by rw [hq]; exact List.mem_cons_of_mem _ (List.mem_cons_self ..))
      have h3 := hk q3 (by rw [hq]; exact List.mem_cons_of_mem _ (List.mem_cons_of_mem _ (List.mem_cons_self ..)))
      rw [hq, List.map_cons, List.map_cons, List.map_cons, List.map_nil]
      refine nd (by omega) _ ?_
      rw [inner_kid (by omega) (by omega) (by omega) (by omega) (by omega)]
      refine ext_bind h1.1 h1.2 fun a _ => ?_
      subst ht
      by_cases ha : a = 1
      · have : behindM (23, N) [mean l q, mean l q2, mean l q3] a = mean l q2 := by unfold behindM; simp only; rw [if_neg (by decide), if_neg (by decide), if_neg (by decide), if_neg (by decide), if_neg (by decide), if_neg (by decide), if_pos trivial, if_pos ha]; rfl
        rw [this]; exact h2.1
      · have : behindM (23, N) [mean l q, mean l q2, mean l q3] a = mean l q3 := by unfold behindM; simp only; rw [if_neg (by decide), if_neg (by decide), if_neg (by decide), if_neg (by decide), if_neg (by decide), if_neg (by decide), if_pos trivial, if_neg ha]; rfl
        rw [this]; exact h3.1
    · have h1 := hk q (by rw [hq]; exact List.mem_cons_self ..)
      have h2 := hk q2 (by rw [hq]; exact List.mem_cons_of_mem _ (List.mem_cons_self ..))
      rw [hq, List.map_cons, List.map_cons, List.map_nil]
      have : nodeM (t, N) [mean l q, mean l q2] = whileM (mean l q) (mean l q2) := by unfold nodeM; rw [if_pos ht]; rfl
      rw [this]
      exact ext_while h1.1 h1.2 h2.1 h2.2
    · have h1 := hk q (by rw [hq]; exact List.mem_cons_self ..)
      rw [hq, List.map_cons, List.map_nil]
      refine nd (by omega) _ ?_
      rw [inner_kid (by omega) (by omega) (by omega) (by omega) (by omega)]
      refine ext_bind h1.1 h1.2 fun a _ => ?_
      subst ht
      exact ext_stopM _ _
theorem begin_ext {args : List Int} (t : Int) (f : Nat) (h : args.length ≤ vs.length) : begin_ (vs ++ [t]) args f = (begin_ vs args f).ext (List.replicate (asz t).toNat 0) := by
  have h1 : (List.range (vs ++ [t]).length).map (fun i => args.getD i 0) = (List.range vs.length).map (fun i => args.getD i 0) ++ [0] := by
    rw [List.length_append, List.length_singleton, List.range_succ, List.map_append]
    congr 1
    show [args.getD vs.length 0] = [0]
    rw [List.getD_eq_getElem?_getD, List.getElem?_eq_none h]; rfl
  unfold begin_ St.ext
  simp only
  rw [h1, List.map_append]; rfl
/-- A VARIABLE THAT IS NOT USED makes no difference. -/
theorem run_unused {ps : Int} {xs : List Nd} {args : List Int} {f : Int} (t : Int) (h : MRight ps vs xs args.length f) : Alike (mrun (vs ++ [t]) xs args f.toNat) (mrun vs xs args f.toNat) := by
  have hle : args.length ≤ vs.length := by have := h.nv; have := h.args; omega
  have hs : scan 1 (xs.drop 0) = some xs.length := by rw [List.drop_zero]; exact h.whole
  have e := ext_mean (z := List.replicate (asz t).toNat 0) h.all xs.length 0 xs.length (by omega) hs (begin_ vs args f.toNat) (h.begin rfl _) rfl
  unfold mrun
  rw [begin_ext t f.toNat hle, show ((0 : Nat) : Int) = 0 from rfl] at *
  rw [e]
  show Alike (((mean xs 0 (begin_ vs args f.toNat)).1.ext _).stop 3 0) _
  rw [ext_stop]
  exact ⟨rfl, rfl, rfl, rfl⟩
theorem right_more {ps : Int} {xs : List Nd} {al : Nat} {f : Int} {t : Int} (ht : 0 ≤ t ∧ t ≤ 9) (hl : vs.length < 12) (h : MRight ps vs xs al f) : MRight ps (vs ++ [t]) xs al f :=
  ⟨by rw [avars_more t ht h.vars, if_neg (by omega)], h.whole, h.tag, (okind_more t h.whole (by rw [h.kind]; decide)).trans h.kind, h.args, h.f0, h.f1⟩
end
end Go.Proofs.Ytodejloonfkkmaa.Mach
