/-
  Package wire: the writer, walked.
-/
import Derived.Test.YtelljahjkfoleaaZigPut
import Derived.Test.YtelljahjkfoleaaMem
import Derived.Test.YtelljahjkfoleaaBytes
import Derived.Lib.AppendStr
import Derived.Maps.AppendAt
import Derived.Outline
namespace Go.Proofs.Ytelljahjkfoleaa.Wire
open Go.RowKit Leb Mem

theorem strCells_b (s : ByteArray) : Lib.strCells s = Bytes.bcells s.data.toList := by
  simp [Lib.strCells, Bytes.bcells, Bytes.nums]

/-- The row behind a text's append lies where it lay, or is new. -/
theorem append_text_at {P : Program} (w : World) (t u ty e : TypeId) (i : TypeInfo) (ht : P.underlying t = some (.slice e)) (hu : P.underlying u = some .string) (hi : P.info? e = some i) (hz : i.zero = some (.int .u8 0))
    (hsize : i.size = 1) (hby : i.bytes = 1) (v : Value) (n : Nat) (xs : List Value) (hown : w.ownsRow 0 e 1 v n xs) (s : ByteArray) (h63 : n + s.size ≤ maxLen) (hb : n + s.size ≤ 140737488355328) :
    ∃ v' w', (Builtin.append_ #[t, u] ty #[v, .string s]).run P w = .ok v' w' ∧ w'.ownsRow 0 e 1 v' (n + s.size) (xs ++ Lib.strCells s) ∧ w.grownBy w' v.ownBlock ∧
      (∀ k, v'.ownBlock = some k → v.ownBlock = some k ∨ w.heap.size ≤ k) := by
  obtain ⟨v', w', hr, h2, h3, -⟩ := Lib.run_append_own_string (P := P) w 0 t u ty e i ht hu hi hz hsize hby v n xs hown s h63 hb (Nat.zero_le _)
  refine ⟨v', w', hr, h2, h3, ?_⟩
  rcases hown.2 with ⟨rfl, rfl⟩ | ⟨g, cap, cur, rfl, hbg, hg, hnc, hcm, hcs, htake⟩
  · have hx : xs = [] := List.eq_nil_of_length_eq_zero (by simpa using hown.1)
    subst hx
    obtain ⟨v2, w2, hr2, h22, -⟩ := Lib.run_append_own_string (P := P) w w.heap.size t u ty e i ht hu hi hz hsize hby _ 0 [] (World.ownsRow_nil w _ e 1) s h63 hb (Nat.le_refl _)
    rw [hr] at hr2
    cases hr2
    intro k hk
    exact .inr (h22.lt k hk).1
  · have hcs' : cur.size = cap := by simpa using hcs
    have hxl : xs.length = n := by simpa using hown.1
    by_cases hroom : n + s.size ≤ cap
    · have hr2 := Lib.run_append_room_string (P := P) w t u ty e i ht hu hi hsize g n cap cur hg s hroom (by omega)
      rw [hr] at hr2
      cases hr2
      intro k hk
      exact .inl hk
    · have hr2 := Lib.run_append_grow_string (P := P) w t u ty e i (.int .u8 0) ht hu hi hz ⟨g, 0, none⟩ n cap xs (by rw [hsize]; simpa using hxl) (hown.cells (g := g) rfl) s (by omega) (by simp only [maxLen] at h63; omega) (by rw [hby]; exact growslice_fits (by omega) (by omega))
      rw [hr] at hr2
      cases hr2
      intro k hk
      simp [Value.ownBlock] at hk
      exact .inr (by omega)

/-- At the operation. -/
theorem wpList_append_text_at {P : Program} {w : World} {ops : Array Oper} {rest : List Oper} {o : Oper} {a : Act} {Q : Exit → Act → World → Prop} (hgd : o.guard = none) (sl x : Operand) (t u : TypeId)
    (ho : o.op = .call { callee := .builtin .append, args := #[sl, x], argTypes := #[t, u] })
    (e : TypeId) (i : TypeInfo) (ht : P.underlying t = some (.slice e)) (hu : P.underlying u = some .string) (hi : P.info? e = some i) (hz : i.zero = some (.int .u8 0))
    (hsize : i.size = 1) (hby : i.bytes = 1)
    (v : Value) (n : Nat) (xs : List Value) (hs : a.eval sl = v) (hown : w.ownsRow 0 e 1 v n xs) (s : ByteArray) (hx : a.eval x = .string s)
    (h63 : n + s.size ≤ maxLen) (hbytes : n + s.size ≤ 140737488355328)
    (h : ∀ v' w', w'.ownsRow 0 e 1 v' (n + s.size) (xs ++ Lib.strCells s) → w.grownBy w' v.ownBlock → (∀ k, v'.ownBlock = some k → v.ownBlock = some k ∨ w.heap.size ≤ k) → wpList P ops Q rest (a.put o.dst v') w') : wpList P ops Q (o :: rest) a w := by
  refine wpList_plain hgd fun K hK => ?_
  obtain ⟨v', w', hr, h2, h3, h4⟩ := append_text_at (P := P) w t u o.type e i ht hu hi hz hsize hby v n xs hown s h63 hbytes
  unfold Oper.wp execOp
  simp only [ho, resolve, invoke, builtin, Sem.run_bind, Sem.run_pure, Result.andThen_ok, List.map_toArray, List.map_cons, List.map_nil, hs, hx, hr]
  exact hK _ _ (h v' w' h2 h3 h4)

/-- A writer in memory: what it has; R: the block of its row, if there is one. -/
def Wr (w : World) (a : Nat) (R : Option Nat) (l : List UInt8) : Prop :=
  ∃ v, Blk w a 67 #[v] ∧ w.ownsRow 0 5 1 v l.length (Bytes.bcells l) ∧ v.ownBlock = R

/-- What a writer's calls may turn. -/
def Its (a : Nat) (R : Option Nat) (k : Nat) : Prop := k = a ∨ R = some k

/-- What writing comes to: more behind. -/
def WrEnds (a : Nat) (R : Option Nat) (l : List UInt8) (w : World) (e : Ending) (w' : World) : Prop :=
  e = .returned (.pointer (some ⟨a, 0, none⟩)) ∧ Kept (Its a R) w w' ∧ ∃ R', Wr w' a R' l ∧ ∀ k, R' = some k → R = some k ∨ w.heap.size ≤ k

section
variable {w w' : World} {a : Nat} {R : Option Nat} {l : List UInt8}
theorem Wr.lt (h : Wr w a R l) : a < w.heap.size := by obtain ⟨v, h, -⟩ := h; exact h.lt
theorem Wr.row_lt (h : Wr w a R l) : ∀ k, R = some k → k < w.heap.size := by
  obtain ⟨v, -, h, rfl⟩ := h; exact fun k hk => (h.lt k hk).2
theorem Wr.its_lt (h : Wr w a R l) : ∀ k, Its a R k → k < w.heap.size := by
  rintro k (rfl | hk)
  · exact h.lt
  · exact h.row_lt k hk
theorem ownsRow_of_block {base : Nat} {e : TypeId} {size : Nat} {v : Value} {n : Nat} {xs : List Value} (h : w.ownsRow base e size v n xs) (hb : ∀ k, v.ownBlock = some k → w'.heap[k]? = w.heap[k]?) : w'.ownsRow base e size v n xs := by
  refine ⟨h.1, ?_⟩
  rcases h.2 with hn | ⟨g, cap, cur, rfl, hbg, hgg, rest⟩
  · exact .inl hn
  · exact .inr ⟨g, cap, cur, rfl, hbg, (hb g rfl).trans hgg, rest⟩
theorem Wr.kept {S : Nat → Prop} (h : Wr w a R l) (k : Kept S w w') (ha : ¬ S a) (hR : ∀ i, R = some i → ¬ S i) : Wr w' a R l := by
  obtain ⟨v, hb, hr, rfl⟩ := h
  exact ⟨v, hb.kept k ha, ownsRow_of_block hr (fun i hi => k.block i (hr.lt i hi).2 (hR i hi)), rfl⟩
theorem Wr.below (h : Wr w a R l) (hb : Below w.heap.size w w') : Wr w' a R l := by
  obtain ⟨v, hbk, hr, rfl⟩ := h
  exact ⟨v, hbk.below hb hbk.lt, ownsRow_of_block hr (fun i hi => hb.block i (hr.lt i hi).2), rfl⟩
end

theorem New_any (w : World) : Calls Try.prog 13 #[] w fun e w' => e = .returned (.pointer (some ⟨w.heap.size, 0, none⟩)) ∧ Wr w' w.heap.size none [] ∧ Below w.heap.size w w' := by
  go_enter Try.func13, Try.ntmps13
  go_wp2
  go_ret
  exact ⟨rfl, ⟨_, Blk.new _ _ _, World.ownsRow_nil _ _ _ _, rfl⟩, (Below.refl _ _).alloc (Nat.le_refl _) _⟩

set_option maxRecDepth 100000 in
theorem Bytes_any (a : Nat) (R : Option Nat) (l : List UInt8) (w : World) (h : Wr w a R l) :
    Calls Try.prog 15 #[.pointer (some ⟨a, 0, none⟩)] w fun e w' => e = .returned (.string ⟨l.toArray⟩) ∧ w = w' := by
  obtain ⟨v, hb, hr, -⟩ := h
  have hc := hb.cell 0
  have hcv := Bytes.conv_owned w 0 v l hr
  rcases hr.2 with ⟨rfl, hn⟩ | ⟨g, cap, cur, rfl, -⟩
  · have HN := Lib.hid hn
    clear hn
    go_enter Try.func15, Try.ntmps15
    go_wp2
    go_ret
    exact ⟨rfl, rfl⟩
  · go_enter Try.func15, Try.ntmps15
    go_wp2
    go_ret
    exact ⟨rfl, rfl⟩

theorem bcells_add (l m : List UInt8) : Bytes.bcells (l ++ m) = Bytes.bcells l ++ Bytes.bcells m := by simp [Bytes.bcells, Bytes.nums]

/-- Behind the append's words and the store back. -/
theorem Wr.more {w w0 w1 : World} {a : Nat} {v v' : Value} {l m : List UInt8} (hb : Blk w a 67 #[v]) (hr : w.ownsRow 0 5 1 v l.length (Bytes.bcells l))
    (h0 : Below w.heap.size w w0) (hown : w1.ownsRow 0 5 1 v' (l.length + m.length) (Bytes.bcells l ++ Bytes.bcells m)) (hg : w0.grownBy w1 v.ownBlock) (hat : ∀ k, v'.ownBlock = some k → v.ownBlock = some k ∨ w.heap.size ≤ k) :
    w1.cell? ⟨a, 0, none⟩ = some v ∧ w1.frozen? ⟨a, 0, none⟩ = false ∧ WrEnds a v.ownBlock (l ++ m) w (.returned (.pointer (some ⟨a, 0, none⟩))) (w1.setCell ⟨a, 0, none⟩ v') := by
  have hne : some a ≠ v.ownBlock := Boxed.not_row (t := 67) (e := 5) hb (by decide) hr
  have hb1 := (hb.below h0 hb.lt).grown hg hne
  have hne' : some a ≠ v'.ownBlock := Boxed.not_row (t := 67) (e := 5) hb1 (by decide) hown
  refine ⟨hb1.cell 0, hb1.frozen 0, rfl, ?_, v'.ownBlock, ⟨v', hb1.set 0 v', ?_, rfl⟩, hat⟩
  · have k1 : Kept (Its a v.ownBlock) w w1 := ((Kept.of_below h0 (Nat.le_refl _)).grown hg (fun k hk => .inl (.inr hk)))
    exact k1.setCell (p := ⟨a, 0, none⟩) (.inl (.inl rfl)) v'
  · rw [List.length_append, bcells_add]
    exact ownsRow_of_block hown (fun k hk => Below.heap_setCell _ _ _ _ (fun e => hne' (by rw [hk, e])))

theorem owns_form {w : World} {base : Nat} {e : TypeId} {size : Nat} {v : Value} {n : Nat} {xs : List Value} (h : w.ownsRow base e size v n xs) : ∃ A c, v = .slice A n c := by
  rcases h.2 with ⟨rfl, rfl⟩ | ⟨g, cap, _, rfl, _⟩
  · exact ⟨_, _, rfl⟩
  · exact ⟨_, _, rfl⟩

set_option maxRecDepth 100000 in
theorem Raw_any (a : Nat) (R : Option Nat) (l : List UInt8) (s : ByteArray) (w : World) (h : Wr w a R l) (hl : l.length + s.size ≤ 1073741824) :
    Calls Try.prog 24 #[.pointer (some ⟨a, 0, none⟩), .string s] w (WrEnds a R (l ++ s.data.toList) w) := by
  obtain ⟨v, hb, hr, rfl⟩ := h
  obtain ⟨i0, hi, hz0, hz1, hz2⟩ := info_parts Bytes.info_u8
  have hc := hb.cell 0
  have hsl : s.data.toList.length = s.size := by simp
  have HS := Lib.hid hsl
  have HC := Lib.hid (strCells_b s)
  clear hsl
  go_enter Try.func24, Try.ntmps24
  go_wp2_with (at_builtin; refine wpList_append_text_at rfl _ _ 65 9 rfl 5 i0 Try.underlying65 Try.underlying9 hi hz0 hz1 hz2 v l.length _ rfl hr s rfl (by simp only [maxLen]; omega) (by omega) ?_; intro v' w1 hown hg hat; rw [HC.out] at hown; obtain ⟨A1, c1, rfl⟩ := owns_form hown; obtain ⟨hc1, hf1, hE⟩ := Wr.more (m := s.data.toList) hb hr (Below.refl _ _) (by rw [HS.out]; exact hown) hg hat)
  go_ret
  exact hE

theorem WrEnds.to {a : Nat} {R : Option Nat} {l : List UInt8} {w w' : World} {e : Ending} (h : WrEnds a R l w e w') : e = .returned (.pointer (some ⟨a, 0, none⟩)) ∧ Kept (Its a R) w w' ∧ ∃ R', Wr w' a R' l ∧ ∀ k, R' = some k → R = some k ∨ w.heap.size ≤ k := h

/-- Behind a call that makes memory alone. -/
theorem WrEnds.pre {a : Nat} {R : Option Nat} {l : List UInt8} {w w1 w' : World} {e : Ending} (hb : Below w.heap.size w w1) (h : WrEnds a R l w1 e w') : WrEnds a R l w e w' := by
  obtain ⟨h1, h2, R', h3, h4⟩ := h
  exact ⟨h1, (Kept.of_below hb (Nat.le_refl _)).trans h2, R', h3, fun k hk => (h4 k hk).imp id (fun q => Nat.le_trans hb.size q)⟩

/-- One behind the other. -/
theorem WrEnds.then {a : Nat} {R R1 : Option Nat} {m : List UInt8} {w w1 w' : World} {e : Ending} (hk : Kept (Its a R) w w1) (hr : ∀ k, R1 = some k → R = some k ∨ w.heap.size ≤ k) (h : WrEnds a R1 m w1 e w') : WrEnds a R m w e w' := by
  obtain ⟨h1, h2, R', h3, h4⟩ := h
  refine ⟨h1, hk.then h2 ?_, R', h3, fun k hk' => ?_⟩
  · rintro i (rfl | hi)
    · exact .inl (.inl rfl)
    · exact (hr i hi).imp .inr id
  · rcases h4 k hk' with q | q
    · exact hr k q
    · exact .inr (Nat.le_trans hk.size q)

set_option maxRecDepth 100000 in
theorem WByte_any (a : Nat) (R : Option Nat) (l : List UInt8) (b : UInt8) (w : World) (h : Wr w a R l) (hl : l.length ≤ 1073741824) :
    Calls Try.prog 30 #[.pointer (some ⟨a, 0, none⟩), .int .u8 b.toNat] w (WrEnds a R (l ++ [b]) w) := by
  obtain ⟨v, hb, hr, rfl⟩ := h
  obtain ⟨i0, hi, hz0, hz1, hz2⟩ := info_parts Bytes.info_u8
  have hc := hb.cell 0
  go_enter Try.func30, Try.ntmps30
  go_wp2_with (at_builtin; refine wpList_append_own_at _ rfl _ _ 65 rfl 0 5 i0 (.int .u8 0) 1 1 Try.underlying65 hi hz0 hz1 hz2 rfl (by decide) v l.length _ rfl (hr.alloc _) ⟨w.heap.size, 0, none⟩ 1 1 [.int .u8 b.toNat] rfl rfl (cell_one_new _ _ _) (by simp [Value.oneCell']) (by simp only [maxLen]; omega) (by omega) (Nat.zero_le _) ?_; intro v' w1 hown hg _ hat; obtain ⟨A1, c1, rfl⟩ := owns_form hown; obtain ⟨hc1, hf1, hE⟩ := Wr.more (m := [b]) hb hr ((Below.refl _ _).alloc (Nat.le_refl _) _) hown hg (fun k hk => hat.elim (fun q => .inl (q.symm.trans hk)) (fun q => .inr (by rw [q] at hk; simp at hk; omega))))
  go_ret
  exact hE

set_option maxRecDepth 100000 in
theorem WNum_any (a : Nat) (R : Option Nat) (l : List UInt8) (n : Int) (h0 : 0 ≤ n) (h1 : n ≤ 18446744073709551615) (w : World) (h : Wr w a R l) (hl : l.length + 10 ≤ 1073741824) :
    Calls Try.prog 25 #[.pointer (some ⟨a, 0, none⟩), .int .u64 n] w (WrEnds a R (l ++ lput n.toNat) w) := by
  have hp := lput_len10 (n := n.toNat) (by omega)
  have HR := Lib.hid (fun W hW => Raw_any a R l ⟨(lput n.toNat).toArray⟩ W hW (by rw [Zig.size_mk]; omega))
  go_enter Try.func25, Try.ntmps25
  go_wp2_with (first | (go_at_call 45; refine (Put_any n h0 h1 _).mono ?_; rintro e w1 ⟨rfl, hb1⟩) | (go_at_call 24; refine (HR.out _ (h.below hb1)).mono ?_; intro e w2 hq; have hE := hq.pre hb1; clear hq; have he := hE.1; subst he))
  go_ret
  exact hE

set_option maxRecDepth 100000 in
theorem WInt_any (a : Nat) (R : Option Nat) (l : List UInt8) (n : Int) (h0 : -9223372036854775808 ≤ n) (h1 : n ≤ 9223372036854775807) (w : World) (h : Wr w a R l) (hl : l.length + 10 ≤ 1073741824) :
    Calls Try.prog 31 #[.pointer (some ⟨a, 0, none⟩), .int .i64 n] w (WrEnds a R (l ++ Zig.zput n) w) := by
  have hz := Zig.zig_range h0 h1
  have hp : (Zig.zput n).length ≤ 10 := lput_len10 (n := (Zig.zig n).toNat) (by omega)
  have HR := Lib.hid (fun W hW => Raw_any a R l ⟨(Zig.zput n).toArray⟩ W hW (by rw [Zig.size_mk]; omega))
  go_enter Try.func31, Try.ntmps31
  go_wp2_with (first | (go_at_call 51; refine (Zig.Put_any n h0 h1 _).mono ?_; rintro e w1 ⟨rfl, hb1⟩) | (go_at_call 24; refine (HR.out _ (h.below hb1)).mono ?_; intro e w2 hq; have hE := hq.pre hb1; clear hq; have he := hE.1; subst he))
  go_ret
  exact hE

/-- A text's bytes: how many, and they. -/
def tput (s : List UInt8) : List UInt8 := lput s.length ++ s

theorem u64_len {n : Nat} (h : n ≤ 1073741824) : IntKind.u64.wrap (n : Int) = (n : Int) := by rw [IntKind.wrap_u64]; omega

set_option maxRecDepth 100000 in
theorem WText_any (a : Nat) (R : Option Nat) (l : List UInt8) (s : ByteArray) (w : World) (h : Wr w a R l) (hl : l.length + s.size + 10 ≤ 1073741824) :
    Calls Try.prog 26 #[.pointer (some ⟨a, 0, none⟩), .string s] w (WrEnds a R (l ++ tput s.data.toList) w) := by
  have hp := lput_len10 (n := s.size) (by omega)
  have hu := u64_len (n := s.size) (by omega)
  have HN := Lib.hid (fun W hW => WNum_any a R l (s.size : Int) (by omega) (by omega) W hW (by omega))
  have HR := Lib.hid (fun R1 W hW => Raw_any a R1 (l ++ lput s.size) s W hW (by rw [List.length_append]; omega))
  have HT := Lib.hid (show l ++ lput s.size ++ s.data.toList = l ++ tput s.data.toList by unfold tput; rw [show s.data.toList.length = s.size by simp, List.append_assoc])
  go_enter Try.func26, Try.ntmps26
  go_wp2_with fail
  go_at_call 25
  refine (HN.out _ h).mono ?_
  intro e w1 hq
  rw [Int.toNat_natCast] at hq
  obtain ⟨rfl, hk1, R1, hw1, hr1⟩ := hq
  go_wp2_with fail
  go_at_call 24
  refine (HR.out _ _ hw1).mono ?_
  intro e w2 hq
  have hE := WrEnds.then hk1 hr1 hq; clear hq
  have he := hE.1; subst he
  go_wp2_with fail
  go_ret
  rw [← HT.out]
  exact hE

end Go.Proofs.Ytelljahjkfoleaa.Wire
