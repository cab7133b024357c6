/-
  Package machine, walked: a turn, whatever stands on top.
-/
import Derived.Test.YtodejloonfkkmaaGreatMachPTurn
set_option linter.unusedVariables false
namespace Go.Proofs.YtodejloonfkkmaaGreat.Mach
open Go.RowKit Mem _root_.Go.Proofs.YtodejloonfkkmaaGreat.Arena _root_.Go.Proofs.YtodejloonfkkmaaGreat.Kinds _root_.Go.Proofs.YtodejloonfkkmaaGreat.Path _root_.Go.Proofs.YtodejloonfkkmaaGreat.Cat _root_.Go.Proofs.YtodejloonfkkmaaGreat.Suite

section
variable {s : St} {S : List Fr}
theorem sem_pure (ho : s.over = false) (v : Int) : semC (pureM v) (s, S) = tellC v (s, S) := by
  unfold semC pureM
  simp only
  rw [if_neg (by rw [ho]; decide)]
theorem sem_stop (k v : Int) : semC (stopM k v) (s, S) = (s.stop k v, S) := by
  unfold semC stopM
  simp only
  rw [if_pos (stop_over s k v)]
theorem sem_getV (ho : s.over = false) {i : Int} {z : Int} (h : s.vals[i.toNat]? = some z) : semC (getV i) (s, S) = tellC z (s, S) := by
  unfold semC getV
  simp only
  rw [if_neg (by rw [ho]; decide), List.getD_eq_getElem?_getD, h]; rfl
theorem sem_is {m : Sem} {s' : St} {v : Int} (e : m s = (s', v)) (ho : s'.over = false) : semC m (s, S) = tellC v (s', S) := by
  unfold semC
  simp only
  rw [e, if_neg (by rw [ho]; decide)]
theorem sem_ends {m : Sem} {s' : St} {v : Int} (e : m s = (s', v)) (ho : s'.over = true) : semC m (s, S) = (s', S) := by
  unfold semC
  simp only
  rw [e, if_pos ho]
theorem sem_getA_out {i a : Int} (h : a < 0 ∨ ((arr s i).length : Int) ≤ a) : semC (getA i a) (s, S) = (s.stop 2 0, S) := by
  refine sem_ends (v := 0) ?_ (stop_over s 2 0)
  unfold getA
  rw [if_pos h]
theorem sem_getA (ho : s.over = false) {i : Int} {j : Nat} {z : Int} (h : (arr s i)[j]? = some z) : semC (getA i j) (s, S) = tellC z (s, S) := by
  have hl := (List.getElem?_eq_some_iff.1 h).1
  refine sem_is ?_ ho
  unfold getA
  rw [if_neg (by omega), Int.toNat_natCast, List.getD_eq_getElem?_getD, h]; rfl
theorem sem_setV (ho : s.over = false) (i v : Int) : semC (setV i v) (s, S) = tellC 0 ({ s with vals := s.vals.set i.toNat v, ev := s.ev ++ [(i, -1, v)] }, S) := by
  unfold semC setV
  simp only
  rw [if_neg (by rw [ho]; decide)]
theorem sem_setA_out {i a v : Int} (h : a < 0 ∨ ((arr s i).length : Int) ≤ a) : semC (setA i a v) (s, S) = (s.stop 2 0, S) := by
  refine sem_ends (v := 0) ?_ (stop_over s 2 0)
  unfold setA
  rw [if_pos h]
theorem sem_setA (ho : s.over = false) {i v : Int} {j : Nat} (h : j < (arr s i).length) : semC (setA i j v) (s, S) = tellC 0 ({ s with arrs := s.arrs.set i.toNat ((arr s i).set j v), ev := s.ev ++ [(i, (j : Int), v)] }, S) := by
  refine sem_is ?_ ho
  unfold setA
  rw [if_neg (by omega), Int.toNat_natCast]
end
theorem do_sem (l : List Nd) {t N : Int} {pos next : Nat} {x y : Int} {c : Cfg} (n18 : t ≠ 18) (n19 : t ≠ 19) (n23 : t ≠ 23) (n24 : t ≠ 24) : doC l ⟨(t, N), pos, next, 0, x, y, false⟩ c = semC (doM (t, N) x y) c := by
  unfold doC
  simp only
  rw [if_neg (by decide), if_neg n18, if_neg n19, if_neg n23, if_neg n24]
theorem do_bin {t N x y : Int} (h : 7 ≤ t ∧ t ≤ 17) : doM (t, N) x y = bin t x y := by
  unfold doM
  simp only
  rw [if_neg (by omega), if_neg (by omega), if_neg (by omega), if_neg (by omega), if_neg (by omega), if_neg (by omega), if_neg (by omega), if_neg (by omega), if_neg (by omega)]
section
variable {K : PK} {κ : Nat → Nat} {evv sv : Value} {Y : List ((Option Addr × Nat) × List Int)} {s : St} {S : List Fr} {W W' : World}
theorem Live.pop {f : Fr} (h : Live K s (f :: S)) : Live K s S := ⟨h.on, h.sum, h.top, by have := h.few; simp only [List.length_cons] at this; omega⟩
set_option maxRecDepth 100000 in
set_option maxHeartbeats 2000000 in
/-- What a value does that does what a node of a tag does. -/
theorem turn_act (t N : Int) (pos next : Nat) (x y : Int) (h : PM K κ evv sv Y s (⟨(t, N), pos, next, 0, x, y, false⟩ :: S) W) (hL : Live K s (⟨(t, N), pos, next, 0, x, y, false⟩ :: S)) (ht : 1 ≤ t ∧ t ≤ 26) (hs : SafeDo K.p.xs ⟨(t, N), pos, next, 0, x, y, false⟩ s) :
    Calls Tryz.prog 36 #[.pointer (some ⟨K.g, 0, none⟩)] W (Turn K κ W (stepC K.p.xs (s, ⟨(t, N), pos, next, 0, x, y, false⟩ :: S))) := by
  have hl : S.length < 1000000 := hL.pop.hl
  have hP := hL.pop
  have ho := hL.on
  have hd : ∀ v, K.actv t = v → doesV K.actv ⟨(t, N), pos, next, 0, x, y, false⟩ = v := fun v e => e
  have ha := h.cn.acts t ht.1 ht.2
  unfold ActV at ha
  rcases ha with ⟨h1, e⟩ | ⟨h1, e⟩ | ⟨h1, e⟩ | ⟨h1, e⟩ | ⟨h1, e⟩ | ⟨h1, e⟩ | ⟨h1, e⟩ | ⟨h1, e⟩ | ⟨h1, e⟩ | ⟨h1, b, e, hb⟩ | ⟨b, q, h1, e, hb⟩ | ⟨b, c, q, h1, e, hc, hb⟩ | ⟨b, c, q, h1, e, hc, hb⟩
  -- a number
  · refine turn_do t N pos next x y false _ h hl (hd _ e) (fun W => rfl) fun sv' W' h' => ?_
    have hr : doC K.p.xs ⟨(t, N), pos, next, 0, x, y, false⟩ (s, S) = tellC N (s, S) := by
      rw [do_sem _ (by omega) (by omega) (by omega) (by omega), ← sem_pure ho]
      unfold doM
      simp only
      rw [if_pos h1]
    rw [hr]
    exact act_constant h' hP t N pos next 0 x y _ _
  -- a variable
  · obtain ⟨n0, n1⟩ := hs.v rfl (.inl h1)
    simp only at n0 n1
    refine turn_do t N pos next x y false _ h hl (hd _ e) (fun W => rfl) fun sv' W' h' => ?_
    obtain ⟨m, rfl⟩ := Int.eq_ofNat_of_zero_le n0
    obtain ⟨z, hz⟩ : ∃ z, s.vals[m]? = some z := ⟨_, List.getElem?_eq_getElem (by omega)⟩
    have hr : doC K.p.xs ⟨(t, (m : Int)), pos, next, 0, x, y, false⟩ (s, S) = tellC z (s, S) := by
      rw [do_sem _ (by omega) (by omega) (by omega) (by omega), ← sem_getV ho (i := (m : Int)) (by rw [Int.toNat_natCast]; exact hz)]
      unfold doM
      simp only
      rw [if_neg (by omega), if_pos h1]
    rw [hr]
    exact act_variable h' hP t m pos next 0 x y _ _ z hz
  -- a place of an array
  · obtain ⟨n0, n1⟩ := hs.a rfl (.inl h1)
    simp only at n0 n1
    refine turn_do t N pos next x y false _ h hl (hd _ e) (fun W => rfl) fun sv' W' h' => ?_
    obtain ⟨m, rfl⟩ := Int.eq_ofNat_of_zero_le n0
    have hr : doC K.p.xs ⟨(t, (m : Int)), pos, next, 0, x, y, false⟩ (s, S) = semC (getA m y) (s, S) := by
      rw [do_sem _ (by omega) (by omega) (by omega) (by omega)]
      unfold doM
      simp only
      rw [if_neg (by omega), if_neg (by omega), if_pos h1]
    rw [hr]
    by_cases hq : y < 0 ∨ ((arr s m).length : Int) ≤ y
    · rw [sem_getA_out hq]
      exact act_element_out h' hP t m pos next 0 x y _ _ (by omega) hq
    · obtain ⟨j, rfl⟩ := Int.eq_ofNat_of_zero_le (show 0 ≤ y by omega)
      obtain ⟨z, hz⟩ : ∃ z, (arr s m)[j]? = some z := ⟨_, List.getElem?_eq_getElem (by omega)⟩
      rw [sem_getA ho hz]
      exact act_element h' hP t m pos next 0 x j _ _ z (by omega) hz
  -- nothing
  · refine turn_do t N pos next x y false _ h hl (hd _ e) (fun W => rfl) fun sv' W' h' => ?_
    have hr : doC K.p.xs ⟨(t, N), pos, next, 0, x, y, false⟩ (s, S) = tellC 0 (s, S) := by
      rw [do_sem _ (by omega) (by omega) (by omega) (by omega), ← sem_pure ho]
      unfold doM
      simp only
      rw [if_neg (by omega), if_neg (by omega), if_neg (by omega), if_neg (by omega), if_neg (by omega), if_pos h1]
    rw [hr]
    exact act_nothing h' hP t N pos next 0 x y _ _
  -- a variable is set
  · obtain ⟨n0, n1⟩ := hs.v rfl (.inr h1)
    simp only at n0 n1
    refine turn_do t N pos next x y false _ h hl (hd _ e) (fun W => rfl) fun sv' W' h' => ?_
    obtain ⟨m, rfl⟩ := Int.eq_ofNat_of_zero_le n0
    have hr : doC K.p.xs ⟨(t, (m : Int)), pos, next, 0, x, y, false⟩ (s, S) = tellC 0 ({ s with vals := s.vals.set m y, ev := s.ev ++ [((m : Int), -1, y)] }, S) := by
      have q := sem_setV (S := S) ho (m : Int) y
      rw [Int.toNat_natCast] at q
      rw [do_sem _ (by omega) (by omega) (by omega) (by omega), ← q]
      unfold doM
      simp only
      rw [if_neg (by omega), if_neg (by omega), if_neg (by omega), if_neg (by omega), if_neg (by omega), if_neg (by omega), if_pos h1]
    rw [hr]
    exact act_set h' hP t m pos next 0 x y _ _ (by omega)
  -- a place is put
  · obtain ⟨n0, n1⟩ := hs.a rfl (.inr h1)
    simp only at n0 n1
    refine turn_do t N pos next x y false _ h hl (hd _ e) (fun W => rfl) fun sv' W' h' => ?_
    obtain ⟨m, rfl⟩ := Int.eq_ofNat_of_zero_le n0
    have hr : doC K.p.xs ⟨(t, (m : Int)), pos, next, 0, x, y, false⟩ (s, S) = semC (setA m x y) (s, S) := by
      rw [do_sem _ (by omega) (by omega) (by omega) (by omega)]
      unfold doM
      simp only
      rw [if_neg (by omega), if_neg (by omega), if_neg (by omega), if_neg (by omega), if_neg (by omega), if_neg (by omega), if_neg (by omega), if_pos h1]
    rw [hr]
    by_cases hq : x < 0 ∨ ((arr s m).length : Int) ≤ x
    · rw [sem_setA_out hq]
      exact act_put_out h' hP t m pos next 0 x y _ _ (by omega) hq
    · obtain ⟨j, rfl⟩ := Int.eq_ofNat_of_zero_le (show 0 ≤ x by omega)
      have q := sem_setA (S := S) ho (i := (m : Int)) (v := y) (j := j) (by omega)
      rw [Int.toNat_natCast] at q
      rw [q]
      exact act_put h' hP t m pos next 0 j y _ _ (by omega) (by omega)
  -- If
  · refine turn_do t N pos next x y false _ h hl (hd _ e) (fun W => rfl) fun sv' W' h' => ?_
    have hr : doC K.p.xs ⟨(t, N), pos, next, 0, x, y, false⟩ (s, S) = if y = 1 then enterC K.p.xs next (s, S) else enterC K.p.xs (behind K.p.xs next) (s, S) := by
      unfold doC
      simp only
      rw [if_neg (by decide), if_neg (by omega), if_neg (by omega), if_pos h1]
    rw [hr]
    exact act_branch h' hP t N pos next 0 x y _ _ (hs.next rfl (.inr (.inr h1))) (hs.next2 rfl h1)
  -- While
  · refine turn_do t N pos next x y false _ h hl (hd _ e) (fun W => rfl) fun sv' W' h' => ?_
    have hr : doC K.p.xs ⟨(t, N), pos, next, 0, x, y, false⟩ (s, S) = if y = 0 then tellC 0 (s, S) else (s, ⟨(t, N), pos, next, 1, x, y, true⟩ :: S) := by
      unfold doC
      simp only
      rw [if_neg (by decide), if_neg (by omega), if_neg (by omega), if_neg (by omega), if_pos h1]
    rw [hr]
    exact act_loop h' hP t N pos next 0 x y _ _
  -- Return
  · refine turn_do t N pos next x y false _ h hl (hd _ e) (fun W => rfl) fun sv' W' h' => ?_
    have hr : doC K.p.xs ⟨(t, N), pos, next, 0, x, y, false⟩ (s, S) = (s.stop 0 y, S) := by
      rw [do_sem _ (by omega) (by omega) (by omega) (by omega), ← sem_stop]
      unfold doM
      simp only
      rw [if_neg (by omega), if_neg (by omega), if_neg (by omega), if_neg (by omega), if_neg (by omega), if_neg (by omega), if_neg (by omega), if_neg (by omega), if_pos h1]
    rw [hr]
    exact act_giveBack h' hP t N pos next 0 x y _ _
  -- And, Or
  · refine turn_doP t N pos next x y false _ b h hl (hd _ e) (fun W => rfl) fun sv' W' h' => ?_
    have hr : doC K.p.xs ⟨(t, N), pos, next, 0, x, y, false⟩ (s, S) = if y = t - 18 then tellC (t - 18) (s, S) else enterC K.p.xs next (s, S) := by
      unfold doC
      simp only
      rcases h1 with rfl | rfl
      · rw [if_neg (by decide), if_pos rfl]; rfl
      · rw [if_neg (by decide), if_neg (by decide), if_pos rfl]; rfl
    rw [hr]
    exact act_joined h' hP t N pos next 0 x y _ _ b (t - 18) (h'.cn.box hb) (hs.next rfl (by rcases h1 with h1 | h1; exact .inl h1; exact .inr (.inl h1)))
  -- numbers
  · refine turn_doP t N pos next x y false _ b h hl (hd _ e) (fun W => rfl) fun sv' W' h' => ?_
    have go : ∀ F : Int → Int → Int, Two q F → (∀ w : World, (callFunc q #[.int .i64 x, .int .i64 y]).run Tryz.prog w = .ok (.enter q #[.int .i64 x, .int .i64 y]) w) → t ≠ 18 ∧ t ≠ 19 ∧ t ≠ 23 ∧ t ≠ 24 → doM (t, N) x y = pureM (F x y) → Calls Tryz.prog 110 #[.pointer (some ⟨K.g, 0, none⟩), .agg #[.int .i64 t, .int .i64 N, .int .i64 pos, .int .i64 next, .int .i64 0, .int .i64 x, .int .i64 y, .func (.func 110) #[] #[.pointer (some ⟨b, 0, none⟩)]], .pointer (some ⟨b, 0, none⟩)] W' (Turn K κ W' (doC K.p.xs ⟨(t, N), pos, next, 0, x, y, false⟩ (s, S))) := by
      intro F hF hq hn hm
      rw [do_sem _ hn.1 hn.2.1 hn.2.2.1 hn.2.2.2, hm, sem_pure ho]
      exact act_reckoned h' hP t N pos next 0 x y _ _ b q F (h'.cn.box hb) (hF _ _ _) hq
    simp only [List.mem_cons, List.not_mem_nil, or_false, Prod.mk.injEq] at h1
    rcases h1 with ⟨rfl, rfl⟩ | ⟨rfl, rfl⟩ | ⟨rfl, rfl⟩ | ⟨rfl, rfl⟩ | ⟨rfl, rfl⟩
    · exact go _ two_neg (fun w => rfl) (by decide) rfl
    · exact go _ two_not (fun w => rfl) (by decide) rfl
    · exact go _ two_add (fun w => rfl) (by decide) rfl
    · exact go _ two_sub (fun w => rfl) (by decide) rfl
    · exact go _ two_mul (fun w => rfl) (by decide) rfl
  -- quotients
  · refine turn_doP t N pos next x y false _ c h hl (hd _ e) (fun W => rfl) fun sv' W' h' => ?_
    simp only [List.mem_cons, List.not_mem_nil, or_false, Prod.mk.injEq] at h1
    have ht2 : t = 10 ∨ t = 11 := by rcases h1 with ⟨h1, -⟩ | ⟨h1, -⟩; exact .inl h1; exact .inr h1
    rw [do_sem _ (by omega) (by omega) (by omega) (by omega), do_bin (by omega)]
    have hbin : bin t x y = if y = 0 then stopM 1 0 else pureM (if t = 10 then IntKind.i64.wrap (x.tdiv y) else x.tmod y) := by
      unfold bin
      rw [if_neg (by omega), if_neg (by omega), if_neg (by omega), if_pos ht2]
    rw [hbin]
    by_cases hy : y = 0
    · rw [if_pos hy, sem_stop]
      exact act_divided_0 h' hP t N pos next 0 x y _ _ c hy
    · rw [if_neg hy, sem_pure ho]
      rcases h1 with ⟨rfl, rfl⟩ | ⟨rfl, rfl⟩
      · exact act_divided h' hP 10 N pos next 0 x y _ _ b c _ (fun x y => IntKind.i64.wrap (x.tdiv y)) hy (h'.cn.box hc) (h'.cn.box hb) (fun w => two_div x y w hy) (fun w => rfl)
      · exact act_divided h' hP 11 N pos next 0 x y _ _ b c _ (fun x y => x.tmod y) hy (h'.cn.box hc) (h'.cn.box hb) (fun w => two_mod x y w hy) (fun w => rfl)
  -- tests
  · refine turn_doP t N pos next x y false _ c h hl (hd _ e) (fun W => rfl) fun sv' W' h' => ?_
    have go : ∀ F : Int → Int → Bool, TwoB q F → (∀ (x y : Int) (w : World), (callFunc q #[.int .i64 x, .int .i64 y]).run Tryz.prog w = .ok (.enter q #[.int .i64 x, .int .i64 y]) w) → t ≠ 18 ∧ t ≠ 19 ∧ t ≠ 23 ∧ t ≠ 24 → doM (t, N) x y = pureM (b01 (F x y)) → Calls Tryz.prog 110 #[.pointer (some ⟨K.g, 0, none⟩), .agg #[.int .i64 t, .int .i64 N, .int .i64 pos, .int .i64 next, .int .i64 0, .int .i64 x, .int .i64 y, .func (.func 110) #[] #[.pointer (some ⟨c, 0, none⟩)]], .pointer (some ⟨c, 0, none⟩)] W' (Turn K κ W' (doC K.p.xs ⟨(t, N), pos, next, 0, x, y, false⟩ (s, S))) := by
      intro F hF hq hn hm
      rw [do_sem _ hn.1 hn.2.1 hn.2.2.1 hn.2.2.2, hm, sem_pure ho]
      have hb' := h'.cn.box hb
      exact act_reckonedP h' hP t N pos next 0 x y _ _ c b _ (fun x y => if F x y = true then 1 else 0) (h'.cn.box hc) (compared_any hF hq b x y _ ((hb'.1.alloc _).cell 0)) (fun w => rfl)
    simp only [List.mem_cons, List.not_mem_nil, or_false, Prod.mk.injEq] at h1
    rcases h1 with ⟨rfl, rfl⟩ | ⟨rfl, rfl⟩ | ⟨rfl, rfl⟩ | ⟨rfl, rfl⟩ | ⟨rfl, rfl⟩ | ⟨rfl, rfl⟩
    · exact go _ two_eq (fun x y w => rfl) (by decide) rfl
    · exact go _ two_ne (fun x y w => rfl) (by decide) rfl
    · exact go _ two_lt (fun x y w => rfl) (by decide) rfl
    · exact go _ two_le (fun x y w => rfl) (by decide) rfl
    · exact go _ two_gt (fun x y w => rfl) (by decide) rfl
    · exact go _ two_ge (fun x y w => rfl) (by decide) rfl
set_option maxRecDepth 100000 in
/-- A TURN, whatever stands on top. -/
theorem turn_any {f : Fr} (h : PM K κ evv sv Y s (f :: S) W) (hL : Live K s (f :: S)) (hs : SafeS K.p.xs s (f :: S)) (hlow : f.owed ≤ 200) : Calls Tryz.prog 36 #[.pointer (some ⟨K.g, 0, none⟩)] W (Turn K κ W (stepC K.p.xs (s, f :: S))) := by
  obtain ⟨⟨t, N⟩, pos, next, owed, x, y, ag⟩ := f
  obtain ⟨t1, t2, hd, hk⟩ := hs
  simp only at t1 t2 hd hk hlow
  cases owed with
  | succ j => exact turn_kid h rfl hL (by omega) (hk (by omega))
  | zero =>
    cases ag with
    | false => exact turn_act t N pos next x y h hL ⟨t1, t2⟩ (hd rfl)
    | true =>
      refine turn_do t N pos next x y true _ h hL.pop.hl rfl (fun W => rfl) fun sv' W' h' => ?_
      have hr : doC K.p.xs ⟨(t, N), pos, next, 0, x, y, true⟩ (s, S) = enterC K.p.xs pos (s, S) := by
        unfold doC
        simp only
        rw [if_pos trivial]
      rw [hr]
      exact act_again h' hL.pop t N pos next 0 x y _ _ ((hd rfl).ag rfl)
end
end Go.Proofs.YtodejloonfkkmaaGreat.Mach
