/-
  Package machine, walked: a run is made.
-/
import Derived.Test.YtodejloonfkkmaaGreatMachPBorn
import Derived.Test.YtodejloonfkkmaaGreatKindsP
set_option linter.unusedVariables false
namespace Go.Proofs.YtodejloonfkkmaaGreat.Mach
open Go.RowKit Mem _root_.Go.Proofs.YtodejloonfkkmaaGreat.Arena _root_.Go.Proofs.YtodejloonfkkmaaGreat.Kinds _root_.Go.Proofs.YtodejloonfkkmaaGreat.Path _root_.Go.Proofs.YtodejloonfkkmaaGreat.Cat _root_.Go.Proofs.YtodejloonfkkmaaGreat.Suite
attribute [local go_sem ↓] Go.wp_at_zero Go.wp_at_succ

section
variable {K : PK} {κ : Nat → Nat} {evv sv : Value} {Y : List ((Option Addr × Nat) × List Int)} {s : St} {S : List Fr} {W W' : World}
/-- Its variables alone are turned. -/
theorem PM.row_v (h : PM K κ evv sv Y s S W) {L : List Int} (hs : W.heap.size ≤ W'.heap.size) (hb : ∀ k, κ k ≠ 2 → k < W.heap.size → W'.heap[k]? = W.heap[k]?) (hO : W'.ownsRow K.base 3 1 K.vv L.length (icells L)) : PM K κ evv sv Y { s with vals := L } S W' := by
  have hk : ∀ k, κ k ≠ 2 → κ k ≠ 0 → W'.heap[k]? = W.heap[k]? := fun k q r => hb k q (h.lab.lt k r).2
  exact {
    lab := { h.lab with lt := fun k q => ⟨(h.lab.lt k q).1, Nat.lt_of_lt_of_le (h.lab.lt k q).2 hs⟩ }
    cn := h.cn.keep hs fun k q => by
      have hn := h.lab.nc q
      refine hb k (by omega) ?_
      rcases q with q | q
      · exact Nat.lt_of_lt_of_le q h.cn.size
      · have := h.lab.c k q; exact (h.lab.lt k (by omega)).2
    blk := (hk K.g (by rw [h.lab.g]; decide) (by rw [h.lab.g]; decide)).trans h.blk
    vr := hO
    ar := own_of_block h.ar fun k e => by have := h.lab.a k e; exact hk k (by omega) (by omega)
    hY := h.hY
    yr := fun i y q => own_of_block (h.yr i y q) fun k e => by have := h.lab.y i y k q e; exact hk k (by omega) (by omega)
    er := own_of_block h.er fun k e => by have := h.lab.e k e; exact hk k (by omega) (by omega)
    sr := own_of_block h.sr fun k e => by have := h.lab.s k e; exact hk k (by omega) (by omega) }
/-- An array that was made is put in. -/
theorem PM.put_arr (h : PM K κ evv sv Y s S W) {ab ac i nb z : Nat} (hav : K.av = .slice (some ⟨ab, 0, none⟩) s.arrs.length ac) (hi : i < s.arrs.length) (hnb : κ nb = 0) (hnB : K.base ≤ nb) (hlt : nb < W.heap.size)
    (hL : W.ownsRow K.base 3 1 (.slice (some ⟨nb, 0, none⟩) z z) z (icells (List.replicate z 0))) (hold : Y[i]? = some ((none, 0), [])) :
    ∃ κ', PM K κ' evv sv (Y.set i ((some ⟨nb, 0, none⟩, z), List.replicate z 0)) { s with arrs := s.arrs.set i (List.replicate z 0) } S (W.setCell ⟨ab, i, none⟩ (.slice (some ⟨nb, 0, none⟩) z z)) := by
  have hab : K.av.ownBlock = some ab := by rw [hav]; rfl
  have ha3 := h.lab.a ab hab
  have hb : ∀ k, κ k ≠ 3 → (W.setCell ⟨ab, i, none⟩ (.slice (some ⟨nb, 0, none⟩) z z)).heap[k]? = W.heap[k]? := fun k q => Below.heap_setCell _ _ _ _ fun z => q (by
    obtain rfl : k = ab := by first | exact z | exact z.symm
    exact ha3)
  have hsz : W.heap.size ≤ (W.setCell ⟨ab, i, none⟩ (.slice (some ⟨nb, 0, none⟩) z z)).heap.size := by simp
  have V := own_put (x := .slice (some ⟨nb, 0, none⟩) z z) h.ar hab (i := i) (by rw [tcells_len]; have := congrArg List.length h.hY; rw [List.length_map] at this; omega)
  have hYl : i < Y.length := (List.getElem?_eq_some_iff.1 hold).1
  have hlr : (List.replicate z (0 : Int)).length = z := List.length_replicate
  have ht : (tcells Y).set i (.slice (some ⟨nb, 0, none⟩) z z) = tcells (Y.set i ((some ⟨nb, 0, none⟩, z), List.replicate z 0)) := by
    unfold tcells
    rw [List.map_set]
    simp only [hlr]
  rw [ht] at V
  have hre : ∀ k, k ≠ nb → (if k = nb then 7 + i else κ k) = κ k := fun k q => if_neg q
  have hat : ∀ m y, (Y.set i ((some ⟨nb, 0, none⟩, z), List.replicate z 0))[m]? = some y → (m = i ∧ y = ((some ⟨nb, 0, none⟩, z), List.replicate z 0)) ∨ (m ≠ i ∧ Y[m]? = some y) := fun m y q => by
    rw [List.getElem?_set] at q
    split at q
    · next q1 => exact .inl ⟨q1.symm, (Option.some.inj q).symm⟩
    · next q1 => exact .inr ⟨fun e => q1 e.symm, q⟩
  have hnn : ∀ k n, κ k = n → n ≠ 0 → k ≠ nb := fun k n e q z => q (by rw [← e, z]; exact hnb)
  refine ⟨fun k => if k = nb then 7 + i else κ k, {
    lab := {
      g := by rw [hre _ (hnn _ _ h.lab.g (by decide))]; exact h.lab.g
      v := fun k e => by rw [hre _ (hnn _ _ (h.lab.v k e) (by decide))]; exact h.lab.v k e
      a := fun k e => by rw [hre _ (hnn _ _ (h.lab.a k e) (by decide))]; exact h.lab.a k e
      e := fun k e => by rw [hre _ (hnn _ _ (h.lab.e k e) (by decide))]; exact h.lab.e k e
      s := fun k e => by rw [hre _ (hnn _ _ (h.lab.s k e) (by decide))]; exact h.lab.s k e
      c := fun k e => by rw [hre _ (hnn _ _ (h.lab.c k e) (by decide))]; exact h.lab.c k e
      y := fun m y k q e => by
        rcases hat m y q with ⟨rfl, rfl⟩ | ⟨-, q⟩
        · obtain rfl : nb = k := Option.some.inj e
          exact if_pos rfl
        · have := h.lab.y m y k q e
          rw [hre _ (hnn _ _ this (by omega))]; exact this
      lt := fun k q => by
        by_cases e : k = nb
        · subst e; exact ⟨hnB, Nat.lt_of_lt_of_le hlt hsz⟩
        · rw [hre _ e] at q
          exact ⟨(h.lab.lt k q).1, Nat.lt_of_lt_of_le (h.lab.lt k q).2 hsz⟩ }
    cn := h.cn.keep hsz fun k q => hb k (by have := h.lab.nc q; omega)
    blk := (hb K.g (by rw [h.lab.g]; decide)).trans h.blk
    vr := own_of_block h.vr fun k e => hb k (by rw [h.lab.v k e]; decide)
    ar := by
      show World.ownsRow _ _ _ _ _ (s.arrs.set i _).length _
      rw [List.length_set]; exact V
    hY := by rw [List.map_set, h.hY]
    yr := fun m y q => by
      rcases hat m y q with ⟨rfl, rfl⟩ | ⟨-, q⟩
      · show World.ownsRow _ _ _ _ (.slice (some ⟨nb, 0, none⟩) (List.replicate z (0 : Int)).length z) (List.replicate z (0 : Int)).length _
        rw [hlr]
        exact own_of_block hL fun k e => hb k (by obtain rfl : nb = k := Option.some.inj e; rw [hnb]; decide)
      · exact own_of_block (h.yr m y q) fun k e => hb k (by have := h.lab.y m y k q e; omega)
    er := own_of_block h.er fun k e => hb k (by rw [h.lab.e k e]; decide)
    sr := own_of_block h.sr fun k e => hb k (by rw [h.lab.s k e]; decide) }⟩
end
/-- Behind so many arrays. -/
def Making (p : Prg) (args : List Int) (F : Nat) (w : World) (K : PK) (k : Nat) (W : World) : Prop :=
  ∃ κ Y s, PM K κ (.slice none 0 0) (.slice none 0 0) Y s [] W ∧ s.vals = (begin_ p.vs args F).vals ∧ s.ev = [] ∧ s.steps = 0 ∧ s.arrs.length = p.vs.length ∧
    (∀ j t, j < k → p.vs[j]? = some t → s.arrs[j]? = some (List.replicate (asz t).toNat 0)) ∧ (∀ j, k ≤ j → j < p.vs.length → Y[j]? = some ((none, 0), [])) ∧ Below w.heap.size w W
theorem Making.all {p : Prg} {args : List Int} {F : Nat} {w : World} {K : PK} {W : World} (h : Making p args F w K p.vs.length W) : ∃ κ Y, PM K κ (.slice none 0 0) (.slice none 0 0) Y (begin_ p.vs args F) [] W := by
  obtain ⟨κ, Y, s, hP, h1, h2, h3, h4, h5, -, -⟩ := h
  refine ⟨κ, Y, hP.same h1.symm ?_ h2.symm h3.symm⟩
  show p.vs.map (fun t => List.replicate (asz t).toNat (0 : Int)) = s.arrs
  apply List.ext_getElem?
  intro j
  rw [List.getElem?_map]
  cases hj : p.vs[j]? with
  | none =>
    have := List.getElem?_eq_none_iff.1 hj
    rw [List.getElem?_eq_none (by omega)]; rfl
  | some t => rw [h5 j t (List.getElem?_eq_some_iff.1 hj).1 hj]; rfl
theorem vals_begin {vs args : List Int} (F : Nat) (h : args.length ≤ vs.length) : (begin_ vs args F).vals = args ++ List.replicate (vs.length - args.length) 0 := by
  show (List.range vs.length).map (fun i => args.getD i 0) = _
  apply List.ext_getElem?
  intro j
  rw [List.getElem?_map]
  by_cases h1 : j < args.length
  · rw [List.getElem?_range (by omega), List.getElem?_append_left h1, List.getElem?_eq_getElem h1]
    show some (args.getD j 0) = _
    rw [List.getD_eq_getElem?_getD, List.getElem?_eq_getElem h1]; rfl
  · rw [List.getElem?_append_right (by omega), List.getElem?_replicate]
    by_cases h2 : j < vs.length
    · rw [List.getElem?_range h2, if_pos (by omega)]
      show some (args.getD j 0) = _
      rw [List.getD_eq_getElem?_getD, List.getElem?_eq_none (by omega)]; rfl
    · rw [List.getElem?_eq_none (by simpa using h2), if_neg (by omega)]; rfl
/-- The arguments, copied. -/
theorem Born.copied {p : Prg} {F : Nat} {w : World} {K : PK} {κ : Nat → Nat} {W : World} (h : Born p F w K κ W) (args : List Int) (hl : args.length ≤ p.vs.length) {vb : Nat} (hkv : K.vv = .slice (some ⟨vb, 0, none⟩) p.vs.length p.vs.length) {cur : Array Value} (hg : W.heap[vb]? = some (.cells cur 3 (0, 0))) (hcur : cur.toList = icells (List.replicate p.vs.length 0)) :
    Making p args F w K 0 (W.setRow vb (cur.toList.take 0 ++ (icells args ++ cur.toList.drop (0 + (icells args).length))).toArray) := by
  have hrow : cur.toList.take 0 ++ (icells args ++ cur.toList.drop (0 + (icells args).length)) = icells (begin_ p.vs args F).vals := by
    rw [vals_begin F hl, hcur, List.take_zero, List.nil_append, Nat.zero_add, icells_length]
    unfold icells
    rw [List.map_append, ← List.map_drop, List.drop_replicate]
  rw [hrow]
  have hv2 := h.pm.lab.v vb (by rw [hkv]; rfl)
  have hvl := h.pm.lab.lt vb (by omega)
  have hlen : (begin_ p.vs args F).vals.length = p.vs.length := by show ((List.range _).map _).length = _; simp
  have hsz : (W.setRow vb (icells (begin_ p.vs args F).vals).toArray).heap.size = W.heap.size := by simp [World.setRow]
  have hO : (W.setRow vb (icells (begin_ p.vs args F).vals).toArray).ownsRow K.base 3 1 K.vv (begin_ p.vs args F).vals.length (icells (begin_ p.vs args F).vals) := by
    rw [hkv, hlen]
    refine ⟨by rw [icells_length, hlen, Nat.mul_one], .inr ⟨vb, p.vs.length, _, rfl, hvl.1, setRow_heap W vb cur _ _ _ hg, Nat.le_refl _, ?_, ?_, ?_⟩⟩
    · have := h.pm.vr
      rw [hkv, show (bare0 p.vs.length F).vals = List.replicate p.vs.length 0 from rfl, List.length_replicate] at this
      rcases this.2 with ⟨q, -⟩ | ⟨_, _, _, q, -, -, -, hm, -⟩
      · cases q
      · cases q; exact hm
    · rw [List.size_toArray, icells_length, hlen, Nat.mul_one]
    · rw [List.toList_toArray, List.take_of_length_le (by rw [icells_length, hlen]; omega)]
  have hb : ∀ k, κ k ≠ 2 → k < W.heap.size → (W.setRow vb (icells (begin_ p.vs args F).vals).toArray).heap[k]? = W.heap[k]? := fun k q _ => setRow_other W vb k _ (fun e => q (by first | (rw [e]; exact hv2) | (rw [← e]; exact hv2)))
  refine ⟨κ, _, _, h.pm.row_v (Nat.le_of_eq hsz.symm) hb hO, rfl, rfl, rfl, by show (List.replicate _ _).length = _; rw [List.length_replicate], fun j t hj => absurd hj (by omega), fun j _ hj => by unfold bareY; rw [List.getElem?_replicate, if_pos hj], below_setRow h.below (by have := hvl.1; rw [h.kb] at this; exact this) _⟩
theorem Born.fresh {p : Prg} {F : Nat} {w : World} {K : PK} {κ : Nat → Nat} {W : World} (h : Born p F w K κ W) : Making p [] F w K 0 W := by
  refine ⟨κ, _, _, h.pm, ?_, rfl, rfl, by show (List.replicate _ _).length = _; rw [List.length_replicate], fun j t hj => absurd hj (by omega), fun j _ hj => by unfold bareY; rw [List.getElem?_replicate, if_pos hj], h.below⟩
  rw [vals_begin F (Nat.zero_le _)]; rfl
theorem Born.row {p : Prg} {F : Nat} {w : World} {K : PK} {κ : Nat → Nat} {W : World} (h : Born p F w K κ W) {vb : Nat} (hkv : K.vv = .slice (some ⟨vb, 0, none⟩) p.vs.length p.vs.length) : ∃ cur : Array Value, W.heap[vb]? = some (.cells cur 3 (0, 0)) ∧ cur.toList = icells (List.replicate p.vs.length 0) := by
  have hv := h.pm.vr
  rw [hkv, show (bare0 p.vs.length F).vals = List.replicate p.vs.length 0 from rfl, List.length_replicate] at hv
  rcases hv.2 with ⟨q, -⟩ | ⟨g', cap, cur, q, -, hg, -, -, hs, ht⟩
  · cases q
  · cases q
    refine ⟨cur, hg, ?_⟩
    rw [← ht, List.take_of_length_le (by rw [Array.length_toList, hs]; omega)]
theorem sz_int : (Tryz.prog.info? 3).map (·.size) = some 1 := by kernel_rfl
/-- An array is made. -/
theorem Making.next {p : Prg} {args : List Int} {F : Nat} {w : World} {K : PK} {k : Nat} {t : Int} {W : World} {ab : Nat} (h : Making p args F w K k W) (hkb : K.base = w.heap.size) (hka : K.av = .slice (some ⟨ab, 0, none⟩) p.vs.length p.vs.length) (ht : p.vs[k]? = some t) {z : Nat} (hz : asz t = z) (hzm : z ≤ maxLen) :
    Making p args F w K (k + 1) ((W.alloc (.cells (madeCells #[.int .i64 0] z) 3)).setCell ⟨ab, k, none⟩ (.slice (some ⟨W.heap.size, 0, none⟩) z z)) := by
  obtain ⟨κ, Y, s, hP, h1, h2, h3, h4, h5, h6, hB⟩ := h
  have hk := (List.getElem?_eq_some_iff.1 ht).1
  have hbs := hP.cn.size
  have hb : Below W.heap.size W (W.alloc (.cells (madeCells #[.int .i64 0] z) 3)) := (Below.refl _ _).alloc (Nat.le_refl _) _
  have hκ : κ W.heap.size = 0 := by
    by_cases q : κ W.heap.size = 0
    · exact q
    · have := (hP.lab.lt _ q).2; omega
  have hL := World.ownsRow_lit (e := 3) (size := 1) (base := K.base) W (madeCells #[.int .i64 0] z) z hbs hzm (by rw [size_madeCells, Nat.mul_one])
  rw [toList_madeCells_one] at hL
  obtain ⟨κ', hP'⟩ := (hP.below hb).put_arr (nb := W.heap.size) (z := z) (i := k) (ab := ab) (ac := p.vs.length) (by rw [h4]; exact hka) (by rw [h4]; exact hk) hκ hbs (by simp) (by simpa [icells] using hL) (h6 k (Nat.le_refl _) hk)
  have hal := hP.lab.lt ab (by rw [hP.lab.a ab (by rw [hka]; rfl)]; decide)
  refine ⟨κ', _, _, hP', h1, h2, h3, by show (s.arrs.set k _).length = _; rw [List.length_set]; exact h4, fun j u hj hu => ?_, fun j h7 h8 => ?_, (hB.trans (hb.mono hB.size)).setCell (p := ⟨ab, k, none⟩) (by rw [← hkb]; exact hal.1) _⟩
  · show (s.arrs.set k _)[j]? = _
    rw [List.getElem?_set]
    by_cases q : k = j
    · subst q
      rw [if_pos rfl, if_pos (by rw [h4]; exact hk)]
      rw [ht] at hu
      cases hu
      rw [hz, Int.toNat_natCast]
    · rw [if_neg q]
      exact h5 j u (by omega) hu
  · rw [List.getElem?_set, if_neg (by omega)]
    exact h6 j (by omega) h8
/-- The arguments are copied, at the operation. -/
theorem copy_args {p : Prg} {F : Nat} {w1 w : World} {K : PK} {κ : Nat → Nat} {ops : Array Oper} {rest : List Oper} {o : Oper} {a : Act} {Q : Exit → Act → World → Prop} (hgd : o.guard = none) (d s : Operand)
    (ho : o.op = .call { callee := .builtin .copy, args := #[d, s], argTypes := #[22, 22] }) {vb c : Nat} {A : Option Addr} (args : List Int)
    (hd : a.eval d = .slice (some ⟨vb, 0, none⟩) p.vs.length p.vs.length) (hs : a.eval s = .slice A args.length c) (hBn : Born p F w1 K κ w) (hkv : K.vv = .slice (some ⟨vb, 0, none⟩) p.vs.length p.vs.length) (hI : IRow w w.heap.size A args) (hle : args.length ≤ p.vs.length)
    (h : ∀ v' w', Making p args F w1 K 0 w' → wpList Tryz.prog ops Q rest (a.put o.dst v') w') : wpList Tryz.prog ops Q (o :: rest) a w := by
  obtain ⟨cur, hg, hcur⟩ := hBn.row hkv
  by_cases he : args = []
  · subst he
    exact wpList_copy_nothing hgd d s _ _ ho 3 Tryz.underlying22 sz_int _ _ _ _ _ _ hd hs (by simp) (h _ _ hBn.fresh)
  · obtain ⟨z, hz⟩ : ∃ z, args[0]? = some z := ⟨_, List.getElem?_eq_getElem (by cases args; exact absurd rfl he; simp)⟩
    obtain ⟨ad, rfl, -⟩ := hI 0 z hz
    refine wpList_copy_own hgd d s _ _ ho 3 Tryz.underlying22 sz_int vb 0 _ _ ad _ _ hd hs cur 3 hg (icells args) ?_ ?_ ?_ ?_ (h _ _ (hBn.copied args hle hkv hg hcur))
    · rw [icells_length]; show _ = min _ _; omega
    · intro j v hj
      unfold icells at hj
      rw [List.getElem?_map] at hj
      obtain ⟨x, hx, rfl⟩ := Option.map_eq_some_iff.1 hj
      obtain ⟨ad', e, -, hc⟩ := hI j x hx
      cases e
      exact hc
    · have := congrArg List.length hcur
      rw [Array.length_toList, icells_length, List.length_replicate] at this
      rw [icells_length]; omega
    · intro v hv
      unfold icells at hv
      obtain ⟨x, -, rfl⟩ := List.mem_map.1 hv
      rfl
/-- What start comes to. -/
def StartEnds (p : Prg) (args : List Int) (F : Nat) (w : World) (e : Ending) (w' : World) : Prop :=
  ∃ K κ Y, e = .returned (.pointer (some ⟨K.g, 0, none⟩)) ∧ PM K κ (.slice none 0 0) (.slice none 0 0) Y (begin_ p.vs args F) [] w' ∧ Below w.heap.size w w' ∧ w.heap.size ≤ K.base ∧ K.p = p ∧ K.F = F
theorem info_ints2 : (Tryz.prog.info? 22).map (fun i => (i.zero, i.size, i.bytes)) = some (some (.slice none 0 0), 1, 24) := by kernel_rfl
set_option maxRecDepth 100000 in
set_option maxHeartbeats 8000000 in
theorem start_any (p : Prg) (A : Option Addr) (c : Nat) (args : List Int) (F : Nat) (w : World) (hp : p.Ok w) (hA : IRow w w.heap.size A args) (hw : MRight p.ps p.vs p.xs args.length F) :
    Calls Tryz.prog 17 #[.agg #[.int .i64 p.ps, .slice p.A p.vs.length p.c, .slice p.B p.xs.length p.e], .slice A args.length c, .int .i64 (F : Nat)] w (StartEnds p args F w) := by
  obtain ⟨hnv, hps0, hpsn⟩ := hw.nv
  have hargs := hw.args
  have hle : args.length ≤ p.vs.length := by omega
  obtain ⟨bd, hBd⟩ : ∃ bd, p.B = some bd := by
    obtain ⟨x, hx⟩ : ∃ x, p.xs[0]? = some x := ⟨_, List.getElem?_eq_getElem hw.pos⟩
    obtain ⟨ad, h0, -⟩ := hp.body 0 x hx
    exact ⟨ad, h0⟩
  have hb1 := (Below.refl w.heap.size w).alloc (Nat.le_refl _) (.cells #[.int .i64 p.ps, .slice p.A p.vs.length p.c, .slice p.B p.xs.length p.e] 25)
  have bX := Blk.new w 25 #[.int .i64 p.ps, .slice p.A p.vs.length p.c, .slice p.B p.xs.length p.e]
  have hp1 := hp.at hb1
  have hA1 := hA.at hb1
  obtain ⟨W1, hW1⟩ : ∃ W1, w.alloc (.cells #[.int .i64 p.ps, .slice p.A p.vs.length p.c, .slice p.B p.xs.length p.e] 25) = W1 := ⟨_, rfl⟩
  rw [hW1] at hb1 bX hp1 hA1
  have hbx := bX.lt
  have HE := Lib.hid (fun W (hb : Below W1.heap.size W1 W) => ends_any bd p.e p.xs W (by have := (hp1.at hb).body; rw [hBd] at this; exact this) hp.lx hw.whole)
  have HACT := Lib.hid (fun W => acts_any W)
  obtain ⟨ig, hig, hz0, hz1, hz2⟩ := info_parts info_int
  obtain ⟨jg, hjg, hy0, hy1, hy2⟩ := info_parts info_ints2
  have hmk1 : ∀ W : World, (Instr.makeSlice 22 (.int .i64 (p.vs.length : Int)) (.int .i64 (p.vs.length : Int))).run Tryz.prog W = .ok (.slice (some ⟨W.heap.size, 0, none⟩) p.vs.length p.vs.length) (W.alloc (.cells (madeCells #[.int .i64 0] p.vs.length) 3)) := fun W => by
    have := run_make (P := Tryz.prog) W 22 3 ig _ Tryz.underlying22 hig hz0 .i64 .i64 (p.vs.length : Int) (p.vs.length : Int) (by omega) (by omega) (by rw [hz2]; omega) (by omega)
    rw [hz1, Int.toNat_natCast, Nat.mul_one] at this
    exact this
  have hmk2 : ∀ W : World, (Instr.makeSlice 52 (.int .i64 (p.vs.length : Int)) (.int .i64 (p.vs.length : Int))).run Tryz.prog W = .ok (.slice (some ⟨W.heap.size, 0, none⟩) p.vs.length p.vs.length) (W.alloc (.cells (madeCells #[.slice none 0 0] p.vs.length) 22)) := fun W => by
    have := run_make (P := Tryz.prog) W 52 22 jg _ Tryz.underlying52 hjg hy0 .i64 .i64 (p.vs.length : Int) (p.vs.length : Int) (by omega) (by omega) (by rw [hy2]; omega) (by omega)
    rw [hy1, Int.toNat_natCast, Nat.mul_one] at this
    exact this
  have HV := Lib.hid (fun (C : World) (hb : Below W1.heap.size W1 C) => show Below C.heap.size C (C.alloc (.cells (madeCells #[.int .i64 0] p.vs.length) 3)) ∧ (C.alloc (.cells (madeCells #[.int .i64 0] p.vs.length) 3)).ownsRow W1.heap.size 3 1 (.slice (some ⟨C.heap.size, 0, none⟩) p.vs.length p.vs.length) p.vs.length (icells (List.replicate p.vs.length 0)) ∧ C.heap.size < (C.alloc (.cells (madeCells #[.int .i64 0] p.vs.length) 3)).heap.size from
    ⟨(Below.refl _ _).alloc (Nat.le_refl _) _, by
      have := World.ownsRow_lit (e := 3) (size := 1) (base := W1.heap.size) C (madeCells #[.int .i64 0] p.vs.length) p.vs.length hb.size (by simp only [maxLen]; omega) (by rw [size_madeCells, Nat.mul_one])
      rw [toList_madeCells_one] at this
      simpa [icells] using this, by simp⟩)
  have HA := Lib.hid (fun (C : World) (hb : Below W1.heap.size W1 C) => show Below C.heap.size C (C.alloc (.cells (madeCells #[.slice none 0 0] p.vs.length) 22)) ∧ (C.alloc (.cells (madeCells #[.slice none 0 0] p.vs.length) 22)).ownsRow W1.heap.size 22 1 (.slice (some ⟨C.heap.size, 0, none⟩) p.vs.length p.vs.length) p.vs.length (List.replicate p.vs.length (.slice none 0 0)) ∧ C.heap.size < (C.alloc (.cells (madeCells #[.slice none 0 0] p.vs.length) 22)).heap.size from
    ⟨(Below.refl _ _).alloc (Nat.le_refl _) _, by
      have := World.ownsRow_lit (e := 22) (size := 1) (base := W1.heap.size) C (madeCells #[.slice none 0 0] p.vs.length) p.vs.length hb.size (by simp only [maxLen]; omega) (by rw [size_madeCells, Nat.mul_one])
      rw [toList_madeCells_one] at this
      exact this, by simp⟩)
  have HBORN := Lib.hid (fun c eb mb mt vb ab v => born_of p F (w := W1) (c := c) (eb := eb) (mb := mb) (mt := mt) (vb := vb) (ab := ab) (v := v) hp1)
  have HSS := Lib.hid (fun W (hb : Below W1.heap.size W1 W) => show (fun w' => w'.cell? ⟨w.heap.size, 1, none⟩ = some (.slice p.A p.vs.length p.c) ∧ w'.cell? ⟨w.heap.size, 2, none⟩ = some (.slice (some bd) p.xs.length p.e)) W from by
    have b := bX.below hb hbx
    rw [← hBd]
    exact ⟨b.cell 1, b.cell 2⟩)
  rw [hBd] at HBORN hW1
  have HSZ := Lib.hid (fun t W => Size_any t W)
  have HP1 := Lib.hid hp1
  have HA1 := Lib.hid hA1
  have HB1 := Lib.hid hb1
  have HBD := Lib.hid hBd
  have hC0 : (fun w' => w'.cell? ⟨w.heap.size, 1, none⟩ = some (.slice p.A p.vs.length p.c) ∧ w'.cell? ⟨w.heap.size, 2, none⟩ = some (.slice (some bd) p.xs.length p.e)) W1.drew := HSS.out _ (Below.refl _ _).drew
  rw [hBd]
  have HW := Lib.hid hw
  clear hp hA hp1 hA1 hb1 bX hBd hw hps0 hpsn
  go_enter Tryz.func17, Tryz.ntmps17
  go_upto_region 1 with fail
  go_cut [7] from 10 to 27 (fun r wx => ∃ K κ, r = .pointer (some ⟨K.g, 0, none⟩) ∧ Born p F W1 K κ wx)
  case first =>
    refine OrdU.wp_region_U 15 (fun w' => w'.cell? ⟨w.heap.size, 1, none⟩ = some (.slice p.A p.vs.length p.c) ∧ w'.cell? ⟨w.heap.size, 2, none⟩ = some (.slice (some bd) p.xs.length p.e)) (by kernel_rfl) hC0 (fun hHeld => ?_)
    refine OrdU.wpAnyU_take (i := 0) (oi := ⟨some 10, _, _, _, _, none⟩) (v := ?_) rfl (by kernel_rfl) (by kernel_rfl) (by kernel_rfl) (by decide) (by kernel_rfl) (fun _ _ _ h => h) (Or.inl ⟨by rfl, ?_⟩) (by assumption) ?_
    rotate_left
    · intro w hSw; (try dsimp only at hSw); go_simp; try with_reducible rfl
    try simp only [Act.put, List.setIfInBounds_toArray, List.set_cons_zero, List.set_cons_succ]
    refine OrdU.wpAnyU_take (i := 1) (oi := ⟨some 11, _, _, _, _, none⟩) (v := ?_) rfl (by kernel_rfl) (by kernel_rfl) (by kernel_rfl) (by decide) (by kernel_rfl) (fun _ _ _ h => h) (Or.inl ⟨by rfl, ?_⟩) (by assumption) ?_
    rotate_left
    · intro w hSw; (try dsimp only at hSw); go_simp; try with_reducible rfl
    try simp only [Act.put, List.setIfInBounds_toArray, List.set_cons_zero, List.set_cons_succ]
    refine OrdU.wpAnyU_take (i := 2) (oi := ⟨some 12, _, _, _, _, none⟩) (v := ?_) rfl (by kernel_rfl) (by kernel_rfl) (by kernel_rfl) (by decide) (by kernel_rfl) (fun _ _ _ h => h) (Or.inl ⟨by rfl, ?_⟩) (by assumption) ?_
    rotate_left
    · intro w hSw; (try dsimp only at hSw); go_simp; try with_reducible rfl
    try simp only [Act.put, List.setIfInBounds_toArray, List.set_cons_zero, List.set_cons_succ]
    refine OrdU.wpAnyU_take (i := 3) (oi := ⟨some 13, _, _, _, _, none⟩) (v := ?_) rfl (by kernel_rfl) (by kernel_rfl) (by kernel_rfl) (by decide) (by kernel_rfl) (fun _ _ _ h => h) (Or.inl ⟨by rfl, ?_⟩) (by assumption) ?_
    rotate_left
    · intro w hSw; (try dsimp only at hSw); go_simp; try with_reducible rfl
    try simp only [Act.put, List.setIfInBounds_toArray, List.set_cons_zero, List.set_cons_succ]
    refine OrdU.wpAnyU_take (i := 5) (oi := ⟨some 15, _, _, _, _, none⟩) (v := ?_) rfl (by kernel_rfl) (by kernel_rfl) (by kernel_rfl) (by decide) (by kernel_rfl) (fun _ _ _ h => h) (Or.inl ⟨by rfl, ?_⟩) (by assumption) ?_
    rotate_left
    · intro w hSw; (try dsimp only at hSw); go_simp; try with_reducible rfl
    try simp only [Act.put, List.setIfInBounds_toArray, List.set_cons_zero, List.set_cons_succ]
    refine OrdU.wpAnyU_take (i := 6) (oi := ⟨some 16, _, _, _, _, none⟩) (v := ?_) rfl (by kernel_rfl) (by kernel_rfl) (by kernel_rfl) (by decide) (by kernel_rfl) (fun _ _ _ h => h) (Or.inl ⟨by rfl, ?_⟩) (by assumption) ?_
    rotate_left
    · intro w hSw; (try dsimp only at hSw); go_simp; try with_reducible rfl
    try simp only [Act.put, List.setIfInBounds_toArray, List.set_cons_zero, List.set_cons_succ]
    refine OrdU.wpAnyU_take (i := 7) (oi := ⟨some 17, _, _, _, _, none⟩) (v := ?_) rfl (by kernel_rfl) (by kernel_rfl) (by kernel_rfl) (by decide) (by kernel_rfl) (fun _ _ _ h => h) (Or.inl ⟨by rfl, ?_⟩) (by assumption) ?_
    rotate_left
    · intro w hSw; (try dsimp only at hSw); go_simp; try with_reducible rfl
    try simp only [Act.put, List.setIfInBounds_toArray, List.set_cons_zero, List.set_cons_succ]
    refine OrdU.wpAnyU_take (i := 8) (oi := ⟨some 18, _, _, _, _, none⟩) (v := ?_) rfl (by kernel_rfl) (by kernel_rfl) (by kernel_rfl) (by decide) (by kernel_rfl) (fun _ _ _ h => h) (Or.inl ⟨by rfl, ?_⟩) (by assumption) ?_
    rotate_left
    · intro w hSw; (try dsimp only at hSw); go_simp; try with_reducible rfl
    try simp only [Act.put, List.setIfInBounds_toArray, List.set_cons_zero, List.set_cons_succ]
    refine OrdU.wpAnyU_take (i := 10) (oi := ⟨some 20, _, _, _, _, none⟩) (v := ?_) rfl (by kernel_rfl) (by kernel_rfl) (by kernel_rfl) (by decide) (by kernel_rfl) (fun _ _ _ h => h) (Or.inl ⟨by rfl, ?_⟩) (by assumption) ?_
    rotate_left
    · intro w hSw; (try dsimp only at hSw); go_simp; try with_reducible rfl
    try simp only [Act.put, List.setIfInBounds_toArray, List.set_cons_zero, List.set_cons_succ]
    refine OrdU.wpAnyU_take (i := 11) (oi := ⟨some 21, _, _, _, _, none⟩) (v := ?_) rfl (by kernel_rfl) (by kernel_rfl) (by kernel_rfl) (by decide) (by kernel_rfl) (fun _ _ _ h => h) (Or.inl ⟨by rfl, ?_⟩) (by assumption) ?_
    rotate_left
    · intro w hSw; (try dsimp only at hSw); go_simp; try with_reducible rfl
    try simp only [Act.put, List.setIfInBounds_toArray, List.set_cons_zero, List.set_cons_succ]
    refine OrdU.wpAnyU_take (i := 12) (oi := ⟨some 22, _, _, _, _, none⟩) (v := ?_) rfl (by kernel_rfl) (by kernel_rfl) (by kernel_rfl) (by decide) (by kernel_rfl) (fun _ _ _ h => h) (Or.inl ⟨by rfl, ?_⟩) (by assumption) ?_
    rotate_left
    · intro w hSw; (try dsimp only at hSw); go_simp; try with_reducible rfl
    try simp only [Act.put, List.setIfInBounds_toArray, List.set_cons_zero, List.set_cons_succ]
    obtain ⟨c0, hc0⟩ : ∃ c, W1.drew = c := ⟨_, rfl⟩
    have hB0 : Below W1.heap.size W1 c0 := by rw [← hc0]; exact (Below.refl _ _).drew
    rw [hc0] at hHeld ⊢
    clear hc0
    refine OrdU.wpAnyU_ready (rs := [4, 9, 13]) (by kernel_rfl) (by simp) ?_
    refine OrdU.AllReadyU.cons (o := ⟨some 14, _, _, _, _, none⟩) rfl (fun K' hK => ?_) (OrdU.AllReadyU.cons (o := ⟨some 19, _, _, _, _, none⟩) rfl (fun K' hK => ?_) (OrdU.AllReadyU.cons (o := ⟨some 23, _, _, _, _, none⟩) rfl (fun K' hK => ?_) OrdU.AllReadyU.nil))
    · go_simp
      go_at_call 32
      with_reducible refine (HE.out c0 hB0).mono ?_
      rintro e c1 ⟨rfl, hl1, hen, hb1⟩
      go_wp2_with fail
      have hB1 := hB0.trans (hb1.mono hB0.size)
      refine hK.out _ _ (fun _ => HSS.out _ hB1) (fun hHeld => ?_)
      replace hHeld := hHeld (by kernel_rfl)
      clear hK K'
      try simp only [Act.put, List.setIfInBounds_toArray, List.set_cons_zero, List.set_cons_succ]
      refine OrdU.wpAnyU_ready (rs := [9, 13, 14]) (by kernel_rfl) (by simp) ?_
      refine OrdU.AllReadyU.cons (o := ⟨some 19, _, _, _, _, none⟩) rfl (fun K' hK => ?_) (OrdU.AllReadyU.cons (o := ⟨some 23, _, _, _, _, none⟩) rfl (fun K' hK => ?_) (OrdU.AllReadyU.cons (o := ⟨some 24, _, _, _, _, none⟩) rfl (fun K' hK => ?_) OrdU.AllReadyU.nil))
      · go_simp
        obtain ⟨hb2, hv, hl2⟩ := HV.out c1 hB1
        obtain ⟨c2, hc⟩ : ∃ c, c1.alloc (.cells (madeCells #[.int .i64 0] p.vs.length) 3) = c := ⟨_, rfl⟩
        rw [hc] at hb2 hv hl2 ⊢
        clear hc
        have hB2 := hB1.trans (hb2.mono hB1.size)
        refine hK.out _ _ (fun _ => HSS.out _ hB2) (fun hHeld => ?_)
        replace hHeld := hHeld (by kernel_rfl)
        clear hK K'
        try simp only [Act.put, List.setIfInBounds_toArray, List.set_cons_zero, List.set_cons_succ]
        refine OrdU.wpAnyU_ready (rs := [13, 14]) (by kernel_rfl) (by simp) ?_
        refine OrdU.AllReadyU.cons (o := ⟨some 23, _, _, _, _, none⟩) rfl (fun K' hK => ?_) (OrdU.AllReadyU.cons (o := ⟨some 24, _, _, _, _, none⟩) rfl (fun K' hK => ?_) OrdU.AllReadyU.nil)
        · go_simp
          obtain ⟨hb3, ha, hl3⟩ := HA.out c2 hB2
          obtain ⟨c3, hc⟩ : ∃ c, c2.alloc (.cells (madeCells #[.slice none 0 0] p.vs.length) 22) = c := ⟨_, rfl⟩
          rw [hc] at hb3 ha hl3 ⊢
          clear hc
          have hB3 := hB2.trans (hb3.mono hB2.size)
          refine hK.out _ _ (fun _ => HSS.out _ hB3) (fun hHeld => ?_)
          replace hHeld := hHeld (by kernel_rfl)
          clear hK K'
          try simp only [Act.put, List.setIfInBounds_toArray, List.set_cons_zero, List.set_cons_succ]
          refine OrdU.wpAnyU_ready (rs := [14]) (by kernel_rfl) (by simp) ?_
          refine OrdU.AllReadyU.cons (o := ⟨some 24, _, _, _, _, none⟩) rfl (fun K' hK => ?_) OrdU.AllReadyU.nil
          go_simp
          go_at_call 33
          with_reducible refine (HACT.out c3).mono ?_
          rintro e c4 ⟨vv, rfl, hmap, hmade, hb4⟩
          have hl4 := hmap.lt
          go_wp2_with fail
          have hB4 := hB3.trans (hb4.mono hB3.size)
          refine hK.out _ _ (fun _ => HSS.out _ hB4) (fun hHeld => ?_)
          replace hHeld := hHeld (by kernel_rfl)
          clear hK K'
          try simp only [Act.put, List.setIfInBounds_toArray, List.set_cons_zero, List.set_cons_succ]
          have hs1 := hb1.size
          have hs2 := hb2.size
          have hs3 := hb3.size
          have hs4 := hb4.size
          have hE4 := (below2 (below2 hb2 hb3) hb4)
          have hV4 := (below2 hb3 hb4)
          have hA4 := hb4
          have hM4 := (Below.refl c4.heap.size c4)
          obtain ⟨K, κ, hg, hborn⟩ := HBORN.out c4 c0.heap.size c3.heap.size c4.heap.size c1.heap.size c2.heap.size vv hB4 (fun i hi => (hE4.cell (p := ⟨c0.heap.size, i, none⟩) hl1).trans (hen i hi)) (map_move hmap (hM4.block _ hl4)) (fun t h1 h2 => (hmade.acts (C := fun k => c3.heap.size < k ∧ k < c4.heap.size) (fun k q r => ⟨q, r⟩) t h1 h2).keep (fun k q r => hM4.block k r)) (own_of_block hv (fun i e => hV4.block i (hv.lt i e).2)) (own_of_block ha (fun i e => hA4.block i (ha.lt i e).2)) (by have := hB0.size; omega)
          have HB := Lib.hid (And.intro hg hborn)
          clear hg hborn hE4 hV4 hA4 hM4
          refine OrdU.wpAnyU_ready (rs := [15]) (by kernel_rfl) (by simp) ?_
          refine OrdU.AllReadyU.cons (o := ⟨some 25, _, _, _, _, none⟩) rfl (fun K' hK => ?_) OrdU.AllReadyU.nil
          go_simp
          refine hK.out _ _ (OrdU.no (by kernel_rfl)) (fun _ => ?_)
          clear hK K'
          try simp only [Act.put, List.setIfInBounds_toArray, List.set_cons_zero, List.set_cons_succ]
          refine OrdU.wpAnyU_ready (rs := [16]) (by kernel_rfl) (by simp) ?_
          refine OrdU.AllReadyU.cons (o := ⟨some 26, _, _, _, _, none⟩) rfl (fun K' hK => ?_) OrdU.AllReadyU.nil
          go_simp
          refine hK.out _ _ (OrdU.no (by kernel_rfl)) (fun _ => ?_)
          clear hK K'
          try simp only [Act.put, List.setIfInBounds_toArray, List.set_cons_zero, List.set_cons_succ]
          refine OrdU.wpAnyU_ready (rs := [17]) (by kernel_rfl) (by simp) ?_
          refine OrdU.AllReadyU.cons (o := ⟨some 7, _, _, _, _, none⟩) rfl (fun K' hK => ?_) OrdU.AllReadyU.nil
          go_simp
          refine hK.out _ _ (OrdU.no (by kernel_rfl)) (fun _ => ?_)
          clear hK K'
          try simp only [Act.put, List.setIfInBounds_toArray, List.set_cons_zero, List.set_cons_succ]
          refine OrdU.wpAnyU_done (by kernel_rfl) ?_ _
          go_wp2_with fail
          go_meet
          exact ⟨K, κ, by rw [HB.out.1], HB.out.2⟩
        · go_simp
          go_at_call 33
          with_reducible refine (HACT.out c2).mono ?_
          rintro e c3 ⟨vv, rfl, hmap, hmade, hb3⟩
          have hl3 := hmap.lt
          go_wp2_with fail
          have hB3 := hB2.trans (hb3.mono hB2.size)
          refine hK.out _ _ (fun _ => HSS.out _ hB3) (fun hHeld => ?_)
          replace hHeld := hHeld (by kernel_rfl)
          clear hK K'
          try simp only [Act.put, List.setIfInBounds_toArray, List.set_cons_zero, List.set_cons_succ]
          refine OrdU.wpAnyU_ready (rs := [13]) (by kernel_rfl) (by simp) ?_
          refine OrdU.AllReadyU.cons (o := ⟨some 23, _, _, _, _, none⟩) rfl (fun K' hK => ?_) OrdU.AllReadyU.nil
          go_simp
          obtain ⟨hb4, ha, hl4⟩ := HA.out c3 hB3
          obtain ⟨c4, hc⟩ : ∃ c, c3.alloc (.cells (madeCells #[.slice none 0 0] p.vs.length) 22) = c := ⟨_, rfl⟩
          rw [hc] at hb4 ha hl4 ⊢
          clear hc
          have hB4 := hB3.trans (hb4.mono hB3.size)
          refine hK.out _ _ (fun _ => HSS.out _ hB4) (fun hHeld => ?_)
          replace hHeld := hHeld (by kernel_rfl)
          clear hK K'
          try simp only [Act.put, List.setIfInBounds_toArray, List.set_cons_zero, List.set_cons_succ]
          have hs1 := hb1.size
          have hs2 := hb2.size
          have hs3 := hb3.size
          have hs4 := hb4.size
          have hE4 := (below2 (below2 hb2 hb3) hb4)
          have hV4 := (below2 hb3 hb4)
          have hA4 := (Below.refl c4.heap.size c4)
          have hM4 := hb4
          obtain ⟨K, κ, hg, hborn⟩ := HBORN.out c4 c0.heap.size c2.heap.size c3.heap.size c1.heap.size c3.heap.size vv hB4 (fun i hi => (hE4.cell (p := ⟨c0.heap.size, i, none⟩) hl1).trans (hen i hi)) (map_move hmap (hM4.block _ hl3)) (fun t h1 h2 => (hmade.acts (C := fun k => c2.heap.size < k ∧ k < c3.heap.size) (fun k q r => ⟨q, r⟩) t h1 h2).keep (fun k q r => hM4.block k r)) (own_of_block hv (fun i e => hV4.block i (hv.lt i e).2)) (own_of_block ha (fun i e => hA4.block i (ha.lt i e).2)) (by have := hB0.size; omega)
          have HB := Lib.hid (And.intro hg hborn)
          clear hg hborn hE4 hV4 hA4 hM4
          refine OrdU.wpAnyU_ready (rs := [15]) (by kernel_rfl) (by simp) ?_
          refine OrdU.AllReadyU.cons (o := ⟨some 25, _, _, _, _, none⟩) rfl (fun K' hK => ?_) OrdU.AllReadyU.nil
          go_simp
          refine hK.out _ _ (OrdU.no (by kernel_rfl)) (fun _ => ?_)
          clear hK K'
          try simp only [Act.put, List.setIfInBounds_toArray, List.set_cons_zero, List.set_cons_succ]
          refine OrdU.wpAnyU_ready (rs := [16]) (by kernel_rfl) (by simp) ?_
          refine OrdU.AllReadyU.cons (o := ⟨some 26, _, _, _, _, none⟩) rfl (fun K' hK => ?_) OrdU.AllReadyU.nil
          go_simp
          refine hK.out _ _ (OrdU.no (by kernel_rfl)) (fun _ => ?_)
          clear hK K'
          try simp only [Act.put, List.setIfInBounds_toArray, List.set_cons_zero, List.set_cons_succ]
          refine OrdU.wpAnyU_ready (rs := [17]) (by kernel_rfl) (by simp) ?_
          refine OrdU.AllReadyU.cons (o := ⟨some 7, _, _, _, _, none⟩) rfl (fun K' hK => ?_) OrdU.AllReadyU.nil
          go_simp
          refine hK.out _ _ (OrdU.no (by kernel_rfl)) (fun _ => ?_)
          clear hK K'
          try simp only [Act.put, List.setIfInBounds_toArray, List.set_cons_zero, List.set_cons_succ]
          refine OrdU.wpAnyU_done (by kernel_rfl) ?_ _
          go_wp2_with fail
          go_meet
          exact ⟨K, κ, by rw [HB.out.1], HB.out.2⟩
      · go_simp
        obtain ⟨hb2, ha, hl2⟩ := HA.out c1 hB1
        obtain ⟨c2, hc⟩ : ∃ c, c1.alloc (.cells (madeCells #[.slice none 0 0] p.vs.length) 22) = c := ⟨_, rfl⟩
        rw [hc] at hb2 ha hl2 ⊢
        clear hc
        have hB2 := hB1.trans (hb2.mono hB1.size)
        refine hK.out _ _ (fun _ => HSS.out _ hB2) (fun hHeld => ?_)
        replace hHeld := hHeld (by kernel_rfl)
        clear hK K'
        try simp only [Act.put, List.setIfInBounds_toArray, List.set_cons_zero, List.set_cons_succ]
        refine OrdU.wpAnyU_ready (rs := [9, 14]) (by kernel_rfl) (by simp) ?_
        refine OrdU.AllReadyU.cons (o := ⟨some 19, _, _, _, _, none⟩) rfl (fun K' hK => ?_) (OrdU.AllReadyU.cons (o := ⟨some 24, _, _, _, _, none⟩) rfl (fun K' hK => ?_) OrdU.AllReadyU.nil)
        · go_simp
          obtain ⟨hb3, hv, hl3⟩ := HV.out c2 hB2
          obtain ⟨c3, hc⟩ : ∃ c, c2.alloc (.cells (madeCells #[.int .i64 0] p.vs.length) 3) = c := ⟨_, rfl⟩
          rw [hc] at hb3 hv hl3 ⊢
          clear hc
          have hB3 := hB2.trans (hb3.mono hB2.size)
          refine hK.out _ _ (fun _ => HSS.out _ hB3) (fun hHeld => ?_)
          replace hHeld := hHeld (by kernel_rfl)
          clear hK K'
          try simp only [Act.put, List.setIfInBounds_toArray, List.set_cons_zero, List.set_cons_succ]
          refine OrdU.wpAnyU_ready (rs := [14]) (by kernel_rfl) (by simp) ?_
          refine OrdU.AllReadyU.cons (o := ⟨some 24, _, _, _, _, none⟩) rfl (fun K' hK => ?_) OrdU.AllReadyU.nil
          go_simp
          go_at_call 33
          with_reducible refine (HACT.out c3).mono ?_
          rintro e c4 ⟨vv, rfl, hmap, hmade, hb4⟩
          have hl4 := hmap.lt
          go_wp2_with fail
          have hB4 := hB3.trans (hb4.mono hB3.size)
          refine hK.out _ _ (fun _ => HSS.out _ hB4) (fun hHeld => ?_)
          replace hHeld := hHeld (by kernel_rfl)
          clear hK K'
          try simp only [Act.put, List.setIfInBounds_toArray, List.set_cons_zero, List.set_cons_succ]
          have hs1 := hb1.size
          have hs2 := hb2.size
          have hs3 := hb3.size
          have hs4 := hb4.size
          have hE4 := (below2 (below2 hb2 hb3) hb4)
          have hV4 := hb4
          have hA4 := (below2 hb3 hb4)
          have hM4 := (Below.refl c4.heap.size c4)
          obtain ⟨K, κ, hg, hborn⟩ := HBORN.out c4 c0.heap.size c3.heap.size c4.heap.size c2.heap.size c1.heap.size vv hB4 (fun i hi => (hE4.cell (p := ⟨c0.heap.size, i, none⟩) hl1).trans (hen i hi)) (map_move hmap (hM4.block _ hl4)) (fun t h1 h2 => (hmade.acts (C := fun k => c3.heap.size < k ∧ k < c4.heap.size) (fun k q r => ⟨q, r⟩) t h1 h2).keep (fun k q r => hM4.block k r)) (own_of_block hv (fun i e => hV4.block i (hv.lt i e).2)) (own_of_block ha (fun i e => hA4.block i (ha.lt i e).2)) (by have := hB0.size; omega)
          have HB := Lib.hid (And.intro hg hborn)
          clear hg hborn hE4 hV4 hA4 hM4
          refine OrdU.wpAnyU_ready (rs := [15]) (by kernel_rfl) (by simp) ?_
          refine OrdU.AllReadyU.cons (o := ⟨some 25, _, _, _, _, none⟩) rfl (fun K' hK => ?_) OrdU.AllReadyU.nil
          go_simp
          refine hK.out _ _ (OrdU.no (by kernel_rfl)) (fun _ => ?_)
          clear hK K'
          try simp only [Act.put, List.setIfInBounds_toArray, List.set_cons_zero, List.set_cons_succ]
          refine OrdU.wpAnyU_ready (rs := [16]) (by kernel_rfl) (by simp) ?_
          refine OrdU.AllReadyU.cons (o := ⟨some 26, _, _, _, _, none⟩) rfl (fun K' hK => ?_) OrdU.AllReadyU.nil
          go_simp
          refine hK.out _ _ (OrdU.no (by kernel_rfl)) (fun _ => ?_)
          clear hK K'
          try simp only [Act.put, List.setIfInBounds_toArray, List.set_cons_zero, List.set_cons_succ]
          refine OrdU.wpAnyU_ready (rs := [17]) (by kernel_rfl) (by simp) ?_
          refine OrdU.AllReadyU.cons (o := ⟨some 7, _, _, _, _, none⟩) rfl (fun K' hK => ?_) OrdU.AllReadyU.nil
          go_simp
          refine hK.out _ _ (OrdU.no (by kernel_rfl)) (fun _ => ?_)
          clear hK K'
          try simp only [Act.put, List.setIfInBounds_toArray, List.set_cons_zero, List.set_cons_succ]
          refine OrdU.wpAnyU_done (by kernel_rfl) ?_ _
          go_wp2_with fail
          go_meet
          exact ⟨K, κ, by rw [HB.out.1], HB.out.2⟩
        · go_simp
          go_at_call 33
          with_reducible refine (HACT.out c2).mono ?_
          rintro e c3 ⟨vv, rfl, hmap, hmade, hb3⟩
          have hl3 := hmap.lt
          go_wp2_with fail
          have hB3 := hB2.trans (hb3.mono hB2.size)
          refine hK.out _ _ (fun _ => HSS.out _ hB3) (fun hHeld => ?_)
          replace hHeld := hHeld (by kernel_rfl)
          clear hK K'
          try simp only [Act.put, List.setIfInBounds_toArray, List.set_cons_zero, List.set_cons_succ]
          refine OrdU.wpAnyU_ready (rs := [9]) (by kernel_rfl) (by simp) ?_
          refine OrdU.AllReadyU.cons (o := ⟨some 19, _, _, _, _, none⟩) rfl (fun K' hK => ?_) OrdU.AllReadyU.nil
          go_simp
          obtain ⟨hb4, hv, hl4⟩ := HV.out c3 hB3
          obtain ⟨c4, hc⟩ : ∃ c, c3.alloc (.cells (madeCells #[.int .i64 0] p.vs.length) 3) = c := ⟨_, rfl⟩
          rw [hc] at hb4 hv hl4 ⊢
          clear hc
          have hB4 := hB3.trans (hb4.mono hB3.size)
          refine hK.out _ _ (fun _ => HSS.out _ hB4) (fun hHeld => ?_)
          replace hHeld := hHeld (by kernel_rfl)
          clear hK K'
          try simp only [Act.put, List.setIfInBounds_toArray, List.set_cons_zero, List.set_cons_succ]
          have hs1 := hb1.size
          have hs2 := hb2.size
          have hs3 := hb3.size
          have hs4 := hb4.size
          have hE4 := (below2 (below2 hb2 hb3) hb4)
          have hV4 := (Below.refl c4.heap.size c4)
          have hA4 := (below2 hb3 hb4)
          have hM4 := hb4
          obtain ⟨K, κ, hg, hborn⟩ := HBORN.out c4 c0.heap.size c2.heap.size c3.heap.size c3.heap.size c1.heap.size vv hB4 (fun i hi => (hE4.cell (p := ⟨c0.heap.size, i, none⟩) hl1).trans (hen i hi)) (map_move hmap (hM4.block _ hl3)) (fun t h1 h2 => (hmade.acts (C := fun k => c2.heap.size < k ∧ k < c3.heap.size) (fun k q r => ⟨q, r⟩) t h1 h2).keep (fun k q r => hM4.block k r)) (own_of_block hv (fun i e => hV4.block i (hv.lt i e).2)) (own_of_block ha (fun i e => hA4.block i (ha.lt i e).2)) (by have := hB0.size; omega)
          have HB := Lib.hid (And.intro hg hborn)
          clear hg hborn hE4 hV4 hA4 hM4
          refine OrdU.wpAnyU_ready (rs := [15]) (by kernel_rfl) (by simp) ?_
          refine OrdU.AllReadyU.cons (o := ⟨some 25, _, _, _, _, none⟩) rfl (fun K' hK => ?_) OrdU.AllReadyU.nil
          go_simp
          refine hK.out _ _ (OrdU.no (by kernel_rfl)) (fun _ => ?_)
          clear hK K'
          try simp only [Act.put, List.setIfInBounds_toArray, List.set_cons_zero, List.set_cons_succ]
          refine OrdU.wpAnyU_ready (rs := [16]) (by kernel_rfl) (by simp) ?_
          refine OrdU.AllReadyU.cons (o := ⟨some 26, _, _, _, _, none⟩) rfl (fun K' hK => ?_) OrdU.AllReadyU.nil
          go_simp
          refine hK.out _ _ (OrdU.no (by kernel_rfl)) (fun _ => ?_)
          clear hK K'
          try simp only [Act.put, List.setIfInBounds_toArray, List.set_cons_zero, List.set_cons_succ]
          refine OrdU.wpAnyU_ready (rs := [17]) (by kernel_rfl) (by simp) ?_
          refine OrdU.AllReadyU.cons (o := ⟨some 7, _, _, _, _, none⟩) rfl (fun K' hK => ?_) OrdU.AllReadyU.nil
          go_simp
          refine hK.out _ _ (OrdU.no (by kernel_rfl)) (fun _ => ?_)
          clear hK K'
          try simp only [Act.put, List.setIfInBounds_toArray, List.set_cons_zero, List.set_cons_succ]
          refine OrdU.wpAnyU_done (by kernel_rfl) ?_ _
          go_wp2_with fail
          go_meet
          exact ⟨K, κ, by rw [HB.out.1], HB.out.2⟩
      · go_simp
        go_at_call 33
        with_reducible refine (HACT.out c1).mono ?_
        rintro e c2 ⟨vv, rfl, hmap, hmade, hb2⟩
        have hl2 := hmap.lt
        go_wp2_with fail
        have hB2 := hB1.trans (hb2.mono hB1.size)
        refine hK.out _ _ (fun _ => HSS.out _ hB2) (fun hHeld => ?_)
        replace hHeld := hHeld (by kernel_rfl)
        clear hK K'
        try simp only [Act.put, List.setIfInBounds_toArray, List.set_cons_zero, List.set_cons_succ]
        refine OrdU.wpAnyU_ready (rs := [9, 13]) (by kernel_rfl) (by simp) ?_
        refine OrdU.AllReadyU.cons (o := ⟨some 19, _, _, _, _, none⟩) rfl (fun K' hK => ?_) (OrdU.AllReadyU.cons (o := ⟨some 23, _, _, _, _, none⟩) rfl (fun K' hK => ?_) OrdU.AllReadyU.nil)
        · go_simp
          obtain ⟨hb3, hv, hl3⟩ := HV.out c2 hB2
          obtain ⟨c3, hc⟩ : ∃ c, c2.alloc (.cells (madeCells #[.int .i64 0] p.vs.length) 3) = c := ⟨_, rfl⟩
          rw [hc] at hb3 hv hl3 ⊢
          clear hc
          have hB3 := hB2.trans (hb3.mono hB2.size)
          refine hK.out _ _ (fun _ => HSS.out _ hB3) (fun hHeld => ?_)
          replace hHeld := hHeld (by kernel_rfl)
          clear hK K'
          try simp only [Act.put, List.setIfInBounds_toArray, List.set_cons_zero, List.set_cons_succ]
          refine OrdU.wpAnyU_ready (rs := [13]) (by kernel_rfl) (by simp) ?_
          refine OrdU.AllReadyU.cons (o := ⟨some 23, _, _, _, _, none⟩) rfl (fun K' hK => ?_) OrdU.AllReadyU.nil
          go_simp
          obtain ⟨hb4, ha, hl4⟩ := HA.out c3 hB3
          obtain ⟨c4, hc⟩ : ∃ c, c3.alloc (.cells (madeCells #[.slice none 0 0] p.vs.length) 22) = c := ⟨_, rfl⟩
          rw [hc] at hb4 ha hl4 ⊢
          clear hc
          have hB4 := hB3.trans (hb4.mono hB3.size)
          refine hK.out _ _ (fun _ => HSS.out _ hB4) (fun hHeld => ?_)
          replace hHeld := hHeld (by kernel_rfl)
          clear hK K'
          try simp only [Act.put, List.setIfInBounds_toArray, List.set_cons_zero, List.set_cons_succ]
          have hs1 := hb1.size
          have hs2 := hb2.size
          have hs3 := hb3.size
          have hs4 := hb4.size
          have hE4 := (below2 (below2 hb2 hb3) hb4)
          have hV4 := hb4
          have hA4 := (Below.refl c4.heap.size c4)
          have hM4 := (below2 hb3 hb4)
          obtain ⟨K, κ, hg, hborn⟩ := HBORN.out c4 c0.heap.size c1.heap.size c2.heap.size c2.heap.size c3.heap.size vv hB4 (fun i hi => (hE4.cell (p := ⟨c0.heap.size, i, none⟩) hl1).trans (hen i hi)) (map_move hmap (hM4.block _ hl2)) (fun t h1 h2 => (hmade.acts (C := fun k => c1.heap.size < k ∧ k < c2.heap.size) (fun k q r => ⟨q, r⟩) t h1 h2).keep (fun k q r => hM4.block k r)) (own_of_block hv (fun i e => hV4.block i (hv.lt i e).2)) (own_of_block ha (fun i e => hA4.block i (ha.lt i e).2)) (by have := hB0.size; omega)
          have HB := Lib.hid (And.intro hg hborn)
          clear hg hborn hE4 hV4 hA4 hM4
          refine OrdU.wpAnyU_ready (rs := [15]) (by kernel_rfl) (by simp) ?_
          refine OrdU.AllReadyU.cons (o := ⟨some 25, _, _, _, _, none⟩) rfl (fun K' hK => ?_) OrdU.AllReadyU.nil
          go_simp
          refine hK.out _ _ (OrdU.no (by kernel_rfl)) (fun _ => ?_)
          clear hK K'
          try simp only [Act.put, List.setIfInBounds_toArray, List.set_cons_zero, List.set_cons_succ]
          refine OrdU.wpAnyU_ready (rs := [16]) (by kernel_rfl) (by simp) ?_
          refine OrdU.AllReadyU.cons (o := ⟨some 26, _, _, _, _, none⟩) rfl (fun K' hK => ?_) OrdU.AllReadyU.nil
          go_simp
          refine hK.out _ _ (OrdU.no (by kernel_rfl)) (fun _ => ?_)
          clear hK K'
          try simp only [Act.put, List.setIfInBounds_toArray, List.set_cons_zero, List.set_cons_succ]
          refine OrdU.wpAnyU_ready (rs := [17]) (by kernel_rfl) (by simp) ?_
          refine OrdU.AllReadyU.cons (o := ⟨some 7, _, _, _, _, none⟩) rfl (fun K' hK => ?_) OrdU.AllReadyU.nil
          go_simp
          refine hK.out _ _ (OrdU.no (by kernel_rfl)) (fun _ => ?_)
          clear hK K'
          try simp only [Act.put, List.setIfInBounds_toArray, List.set_cons_zero, List.set_cons_succ]
          refine OrdU.wpAnyU_done (by kernel_rfl) ?_ _
          go_wp2_with fail
          go_meet
          exact ⟨K, κ, by rw [HB.out.1], HB.out.2⟩
        · go_simp
          obtain ⟨hb3, ha, hl3⟩ := HA.out c2 hB2
          obtain ⟨c3, hc⟩ : ∃ c, c2.alloc (.cells (madeCells #[.slice none 0 0] p.vs.length) 22) = c := ⟨_, rfl⟩
          rw [hc] at hb3 ha hl3 ⊢
          clear hc
          have hB3 := hB2.trans (hb3.mono hB2.size)
          refine hK.out _ _ (fun _ => HSS.out _ hB3) (fun hHeld => ?_)
          replace hHeld := hHeld (by kernel_rfl)
          clear hK K'
          try simp only [Act.put, List.setIfInBounds_toArray, List.set_cons_zero, List.set_cons_succ]
          refine OrdU.wpAnyU_ready (rs := [9]) (by kernel_rfl) (by simp) ?_
          refine OrdU.AllReadyU.cons (o := ⟨some 19, _, _, _, _, none⟩) rfl (fun K' hK => ?_) OrdU.AllReadyU.nil
          go_simp
          obtain ⟨hb4, hv, hl4⟩ := HV.out c3 hB3
          obtain ⟨c4, hc⟩ : ∃ c, c3.alloc (.cells (madeCells #[.int .i64 0] p.vs.length) 3) = c := ⟨_, rfl⟩
          rw [hc] at hb4 hv hl4 ⊢
          clear hc
          have hB4 := hB3.trans (hb4.mono hB3.size)
          refine hK.out _ _ (fun _ => HSS.out _ hB4) (fun hHeld => ?_)
          replace hHeld := hHeld (by kernel_rfl)
          clear hK K'
          try simp only [Act.put, List.setIfInBounds_toArray, List.set_cons_zero, List.set_cons_succ]
          have hs1 := hb1.size
          have hs2 := hb2.size
          have hs3 := hb3.size
          have hs4 := hb4.size
          have hE4 := (below2 (below2 hb2 hb3) hb4)
          have hV4 := (Below.refl c4.heap.size c4)
          have hA4 := hb4
          have hM4 := (below2 hb3 hb4)
          obtain ⟨K, κ, hg, hborn⟩ := HBORN.out c4 c0.heap.size c1.heap.size c2.heap.size c3.heap.size c2.heap.size vv hB4 (fun i hi => (hE4.cell (p := ⟨c0.heap.size, i, none⟩) hl1).trans (hen i hi)) (map_move hmap (hM4.block _ hl2)) (fun t h1 h2 => (hmade.acts (C := fun k => c1.heap.size < k ∧ k < c2.heap.size) (fun k q r => ⟨q, r⟩) t h1 h2).keep (fun k q r => hM4.block k r)) (own_of_block hv (fun i e => hV4.block i (hv.lt i e).2)) (own_of_block ha (fun i e => hA4.block i (ha.lt i e).2)) (by have := hB0.size; omega)
          have HB := Lib.hid (And.intro hg hborn)
          clear hg hborn hE4 hV4 hA4 hM4
          refine OrdU.wpAnyU_ready (rs := [15]) (by kernel_rfl) (by simp) ?_
          refine OrdU.AllReadyU.cons (o := ⟨some 25, _, _, _, _, none⟩) rfl (fun K' hK => ?_) OrdU.AllReadyU.nil
          go_simp
          refine hK.out _ _ (OrdU.no (by kernel_rfl)) (fun _ => ?_)
          clear hK K'
          try simp only [Act.put, List.setIfInBounds_toArray, List.set_cons_zero, List.set_cons_succ]
          refine OrdU.wpAnyU_ready (rs := [16]) (by kernel_rfl) (by simp) ?_
          refine OrdU.AllReadyU.cons (o := ⟨some 26, _, _, _, _, none⟩) rfl (fun K' hK => ?_) OrdU.AllReadyU.nil
          go_simp
          refine hK.out _ _ (OrdU.no (by kernel_rfl)) (fun _ => ?_)
          clear hK K'
          try simp only [Act.put, List.setIfInBounds_toArray, List.set_cons_zero, List.set_cons_succ]
          refine OrdU.wpAnyU_ready (rs := [17]) (by kernel_rfl) (by simp) ?_
          refine OrdU.AllReadyU.cons (o := ⟨some 7, _, _, _, _, none⟩) rfl (fun K' hK => ?_) OrdU.AllReadyU.nil
          go_simp
          refine hK.out _ _ (OrdU.no (by kernel_rfl)) (fun _ => ?_)
          clear hK K'
          try simp only [Act.put, List.setIfInBounds_toArray, List.set_cons_zero, List.set_cons_succ]
          refine OrdU.wpAnyU_done (by kernel_rfl) ?_ _
          go_wp2_with fail
          go_meet
          exact ⟨K, κ, by rw [HB.out.1], HB.out.2⟩
    · go_simp
      obtain ⟨hb1, hv, hl1⟩ := HV.out c0 hB0
      obtain ⟨c1, hc⟩ : ∃ c, c0.alloc (.cells (madeCells #[.int .i64 0] p.vs.length) 3) = c := ⟨_, rfl⟩
      rw [hc] at hb1 hv hl1 ⊢
      clear hc
      have hB1 := hB0.trans (hb1.mono hB0.size)
      refine hK.out _ _ (fun _ => HSS.out _ hB1) (fun hHeld => ?_)
      replace hHeld := hHeld (by kernel_rfl)
      clear hK K'
      try simp only [Act.put, List.setIfInBounds_toArray, List.set_cons_zero, List.set_cons_succ]
      refine OrdU.wpAnyU_ready (rs := [4, 13]) (by kernel_rfl) (by simp) ?_
      refine OrdU.AllReadyU.cons (o := ⟨some 14, _, _, _, _, none⟩) rfl (fun K' hK => ?_) (OrdU.AllReadyU.cons (o := ⟨some 23, _, _, _, _, none⟩) rfl (fun K' hK => ?_) OrdU.AllReadyU.nil)
      · go_simp
        go_at_call 32
        with_reducible refine (HE.out c1 hB1).mono ?_
        rintro e c2 ⟨rfl, hl2, hen, hb2⟩
        go_wp2_with fail
        have hB2 := hB1.trans (hb2.mono hB1.size)
        refine hK.out _ _ (fun _ => HSS.out _ hB2) (fun hHeld => ?_)
        replace hHeld := hHeld (by kernel_rfl)
        clear hK K'
        try simp only [Act.put, List.setIfInBounds_toArray, List.set_cons_zero, List.set_cons_succ]
        refine OrdU.wpAnyU_ready (rs := [13, 14]) (by kernel_rfl) (by simp) ?_
        refine OrdU.AllReadyU.cons (o := ⟨some 23, _, _, _, _, none⟩) rfl (fun K' hK => ?_) (OrdU.AllReadyU.cons (o := ⟨some 24, _, _, _, _, none⟩) rfl (fun K' hK => ?_) OrdU.AllReadyU.nil)
        · go_simp
          obtain ⟨hb3, ha, hl3⟩ := HA.out c2 hB2
          obtain ⟨c3, hc⟩ : ∃ c, c2.alloc (.cells (madeCells #[.slice none 0 0] p.vs.length) 22) = c := ⟨_, rfl⟩
          rw [hc] at hb3 ha hl3 ⊢
          clear hc
          have hB3 := hB2.trans (hb3.mono hB2.size)
          refine hK.out _ _ (fun _ => HSS.out _ hB3) (fun hHeld => ?_)
          replace hHeld := hHeld (by kernel_rfl)
          clear hK K'
          try simp only [Act.put, List.setIfInBounds_toArray, List.set_cons_zero, List.set_cons_succ]
          refine OrdU.wpAnyU_ready (rs := [14]) (by kernel_rfl) (by simp) ?_
          refine OrdU.AllReadyU.cons (o := ⟨some 24, _, _, _, _, none⟩) rfl (fun K' hK => ?_) OrdU.AllReadyU.nil
          go_simp
          go_at_call 33
          with_reducible refine (HACT.out c3).mono ?_
          rintro e c4 ⟨vv, rfl, hmap, hmade, hb4⟩
          have hl4 := hmap.lt
          go_wp2_with fail
          have hB4 := hB3.trans (hb4.mono hB3.size)
          refine hK.out _ _ (fun _ => HSS.out _ hB4) (fun hHeld => ?_)
          replace hHeld := hHeld (by kernel_rfl)
          clear hK K'
          try simp only [Act.put, List.setIfInBounds_toArray, List.set_cons_zero, List.set_cons_succ]
          have hs1 := hb1.size
          have hs2 := hb2.size
          have hs3 := hb3.size
          have hs4 := hb4.size
          have hE4 := (below2 hb3 hb4)
          have hV4 := (below2 (below2 hb2 hb3) hb4)
          have hA4 := hb4
          have hM4 := (Below.refl c4.heap.size c4)
          obtain ⟨K, κ, hg, hborn⟩ := HBORN.out c4 c1.heap.size c3.heap.size c4.heap.size c0.heap.size c2.heap.size vv hB4 (fun i hi => (hE4.cell (p := ⟨c1.heap.size, i, none⟩) hl2).trans (hen i hi)) (map_move hmap (hM4.block _ hl4)) (fun t h1 h2 => (hmade.acts (C := fun k => c3.heap.size < k ∧ k < c4.heap.size) (fun k q r => ⟨q, r⟩) t h1 h2).keep (fun k q r => hM4.block k r)) (own_of_block hv (fun i e => hV4.block i (hv.lt i e).2)) (own_of_block ha (fun i e => hA4.block i (ha.lt i e).2)) (by have := hB0.size; omega)
          have HB := Lib.hid (And.intro hg hborn)
          clear hg hborn hE4 hV4 hA4 hM4
          refine OrdU.wpAnyU_ready (rs := [15]) (by kernel_rfl) (by simp) ?_
          refine OrdU.AllReadyU.cons (o := ⟨some 25, _, _, _, _, none⟩) rfl (fun K' hK => ?_) OrdU.AllReadyU.nil
          go_simp
          refine hK.out _ _ (OrdU.no (by kernel_rfl)) (fun _ => ?_)
          clear hK K'
          try simp only [Act.put, List.setIfInBounds_toArray, List.set_cons_zero, List.set_cons_succ]
          refine OrdU.wpAnyU_ready (rs := [16]) (by kernel_rfl) (by simp) ?_
          refine OrdU.AllReadyU.cons (o := ⟨some 26, _, _, _, _, none⟩) rfl (fun K' hK => ?_) OrdU.AllReadyU.nil
          go_simp
          refine hK.out _ _ (OrdU.no (by kernel_rfl)) (fun _ => ?_)
          clear hK K'
          try simp only [Act.put, List.setIfInBounds_toArray, List.set_cons_zero, List.set_cons_succ]
          refine OrdU.wpAnyU_ready (rs := [17]) (by kernel_rfl) (by simp) ?_
          refine OrdU.AllReadyU.cons (o := ⟨some 7, _, _, _, _, none⟩) rfl (fun K' hK => ?_) OrdU.AllReadyU.nil
          go_simp
          refine hK.out _ _ (OrdU.no (by kernel_rfl)) (fun _ => ?_)
          clear hK K'
          try simp only [Act.put, List.setIfInBounds_toArray, List.set_cons_zero, List.set_cons_succ]
          refine OrdU.wpAnyU_done (by kernel_rfl) ?_ _
          go_wp2_with fail
          go_meet
          exact ⟨K, κ, by rw [HB.out.1], HB.out.2⟩
        · go_simp
          go_at_call 33
          with_reducible refine (HACT.out c2).mono ?_
          rintro e c3 ⟨vv, rfl, hmap, hmade, hb3⟩
          have hl3 := hmap.lt
          go_wp2_with fail
          have hB3 := hB2.trans (hb3.mono hB2.size)
          refine hK.out _ _ (fun _ => HSS.out _ hB3) (fun hHeld => ?_)
          replace hHeld := hHeld (by kernel_rfl)
          clear hK K'
          try simp only [Act.put, List.setIfInBounds_toArray, List.set_cons_zero, List.set_cons_succ]
          refine OrdU.wpAnyU_ready (rs := [13]) (by kernel_rfl) (by simp) ?_
          refine OrdU.AllReadyU.cons (o := ⟨some 23, _, _, _, _, none⟩) rfl (fun K' hK => ?_) OrdU.AllReadyU.nil
          go_simp
          obtain ⟨hb4, ha, hl4⟩ := HA.out c3 hB3
          obtain ⟨c4, hc⟩ : ∃ c, c3.alloc (.cells (madeCells #[.slice none 0 0] p.vs.length) 22) = c := ⟨_, rfl⟩
          rw [hc] at hb4 ha hl4 ⊢
          clear hc
          have hB4 := hB3.trans (hb4.mono hB3.size)
          refine hK.out _ _ (fun _ => HSS.out _ hB4) (fun hHeld => ?_)
          replace hHeld := hHeld (by kernel_rfl)
          clear hK K'
          try simp only [Act.put, List.setIfInBounds_toArray, List.set_cons_zero, List.set_cons_succ]
          have hs1 := hb1.size
          have hs2 := hb2.size
          have hs3 := hb3.size
          have hs4 := hb4.size
          have hE4 := (below2 hb3 hb4)
          have hV4 := (below2 (below2 hb2 hb3) hb4)
          have hA4 := (Below.refl c4.heap.size c4)
          have hM4 := hb4
          obtain ⟨K, κ, hg, hborn⟩ := HBORN.out c4 c1.heap.size c2.heap.size c3.heap.size c0.heap.size c3.heap.size vv hB4 (fun i hi => (hE4.cell (p := ⟨c1.heap.size, i, none⟩) hl2).trans (hen i hi)) (map_move hmap (hM4.block _ hl3)) (fun t h1 h2 => (hmade.acts (C := fun k => c2.heap.size < k ∧ k < c3.heap.size) (fun k q r => ⟨q, r⟩) t h1 h2).keep (fun k q r => hM4.block k r)) (own_of_block hv (fun i e => hV4.block i (hv.lt i e).2)) (own_of_block ha (fun i e => hA4.block i (ha.lt i e).2)) (by have := hB0.size; omega)
          have HB := Lib.hid (And.intro hg hborn)
          clear hg hborn hE4 hV4 hA4 hM4
          refine OrdU.wpAnyU_ready (rs := [15]) (by kernel_rfl) (by simp) ?_
          refine OrdU.AllReadyU.cons (o := ⟨some 25, _, _, _, _, none⟩) rfl (fun K' hK => ?_) OrdU.AllReadyU.nil
          go_simp
          refine hK.out _ _ (OrdU.no (by kernel_rfl)) (fun _ => ?_)
          clear hK K'
          try simp only [Act.put, List.setIfInBounds_toArray, List.set_cons_zero, List.set_cons_succ]
          refine OrdU.wpAnyU_ready (rs := [16]) (by kernel_rfl) (by simp) ?_
          refine OrdU.AllReadyU.cons (o := ⟨some 26, _, _, _, _, none⟩) rfl (fun K' hK => ?_) OrdU.AllReadyU.nil
          go_simp
          refine hK.out _ _ (OrdU.no (by kernel_rfl)) (fun _ => ?_)
          clear hK K'
          try simp only [Act.put, List.setIfInBounds_toArray, List.set_cons_zero, List.set_cons_succ]
          refine OrdU.wpAnyU_ready (rs := [17]) (by kernel_rfl) (by simp) ?_
          refine OrdU.AllReadyU.cons (o := ⟨some 7, _, _, _, _, none⟩) rfl (fun K' hK => ?_) OrdU.AllReadyU.nil
          go_simp
          refine hK.out _ _ (OrdU.no (by kernel_rfl)) (fun _ => ?_)
          clear hK K'
          try simp only [Act.put, List.setIfInBounds_toArray, List.set_cons_zero, List.set_cons_succ]
          refine OrdU.wpAnyU_done (by kernel_rfl) ?_ _
          go_wp2_with fail
          go_meet
          exact ⟨K, κ, by rw [HB.out.1], HB.out.2⟩
      · go_simp
        obtain ⟨hb2, ha, hl2⟩ := HA.out c1 hB1
        obtain ⟨c2, hc⟩ : ∃ c, c1.alloc (.cells (madeCells #[.slice none 0 0] p.vs.length) 22) = c := ⟨_, rfl⟩
        rw [hc] at hb2 ha hl2 ⊢
        clear hc
        have hB2 := hB1.trans (hb2.mono hB1.size)
        refine hK.out _ _ (fun _ => HSS.out _ hB2) (fun hHeld => ?_)
        replace hHeld := hHeld (by kernel_rfl)
        clear hK K'
        try simp only [Act.put, List.setIfInBounds_toArray, List.set_cons_zero, List.set_cons_succ]
        refine OrdU.wpAnyU_ready (rs := [4]) (by kernel_rfl) (by simp) ?_
        refine OrdU.AllReadyU.cons (o := ⟨some 14, _, _, _, _, none⟩) rfl (fun K' hK => ?_) OrdU.AllReadyU.nil
        go_simp
        go_at_call 32
        with_reducible refine (HE.out c2 hB2).mono ?_
        rintro e c3 ⟨rfl, hl3, hen, hb3⟩
        go_wp2_with fail
        have hB3 := hB2.trans (hb3.mono hB2.size)
        refine hK.out _ _ (fun _ => HSS.out _ hB3) (fun hHeld => ?_)
        replace hHeld := hHeld (by kernel_rfl)
        clear hK K'
        try simp only [Act.put, List.setIfInBounds_toArray, List.set_cons_zero, List.set_cons_succ]
        refine OrdU.wpAnyU_ready (rs := [14]) (by kernel_rfl) (by simp) ?_
        refine OrdU.AllReadyU.cons (o := ⟨some 24, _, _, _, _, none⟩) rfl (fun K' hK => ?_) OrdU.AllReadyU.nil
        go_simp
        go_at_call 33
        with_reducible refine (HACT.out c3).mono ?_
        rintro e c4 ⟨vv, rfl, hmap, hmade, hb4⟩
        have hl4 := hmap.lt
        go_wp2_with fail
        have hB4 := hB3.trans (hb4.mono hB3.size)
        refine hK.out _ _ (fun _ => HSS.out _ hB4) (fun hHeld => ?_)
        replace hHeld := hHeld (by kernel_rfl)
        clear hK K'
        try simp only [Act.put, List.setIfInBounds_toArray, List.set_cons_zero, List.set_cons_succ]
        have hs1 := hb1.size
        have hs2 := hb2.size
        have hs3 := hb3.size
        have hs4 := hb4.size
        have hE4 := hb4
        have hV4 := (below2 (below2 hb2 hb3) hb4)
        have hA4 := (below2 hb3 hb4)
        have hM4 := (Below.refl c4.heap.size c4)
        obtain ⟨K, κ, hg, hborn⟩ := HBORN.out c4 c2.heap.size c3.heap.size c4.heap.size c0.heap.size c1.heap.size vv hB4 (fun i hi => (hE4.cell (p := ⟨c2.heap.size, i, none⟩) hl3).trans (hen i hi)) (map_move hmap (hM4.block _ hl4)) (fun t h1 h2 => (hmade.acts (C := fun k => c3.heap.size < k ∧ k < c4.heap.size) (fun k q r => ⟨q, r⟩) t h1 h2).keep (fun k q r => hM4.block k r)) (own_of_block hv (fun i e => hV4.block i (hv.lt i e).2)) (own_of_block ha (fun i e => hA4.block i (ha.lt i e).2)) (by have := hB0.size; omega)
        have HB := Lib.hid (And.intro hg hborn)
        clear hg hborn hE4 hV4 hA4 hM4
        refine OrdU.wpAnyU_ready (rs := [15]) (by kernel_rfl) (by simp) ?_
        refine OrdU.AllReadyU.cons (o := ⟨some 25, _, _, _, _, none⟩) rfl (fun K' hK => ?_) OrdU.AllReadyU.nil
        go_simp
        refine hK.out _ _ (OrdU.no (by kernel_rfl)) (fun _ => ?_)
        clear hK K'
        try simp only [Act.put, List.setIfInBounds_toArray, List.set_cons_zero, List.set_cons_succ]
        refine OrdU.wpAnyU_ready (rs := [16]) (by kernel_rfl) (by simp) ?_
        refine OrdU.AllReadyU.cons (o := ⟨some 26, _, _, _, _, none⟩) rfl (fun K' hK => ?_) OrdU.AllReadyU.nil
        go_simp
        refine hK.out _ _ (OrdU.no (by kernel_rfl)) (fun _ => ?_)
        clear hK K'
        try simp only [Act.put, List.setIfInBounds_toArray, List.set_cons_zero, List.set_cons_succ]
        refine OrdU.wpAnyU_ready (rs := [17]) (by kernel_rfl) (by simp) ?_
        refine OrdU.AllReadyU.cons (o := ⟨some 7, _, _, _, _, none⟩) rfl (fun K' hK => ?_) OrdU.AllReadyU.nil
        go_simp
        refine hK.out _ _ (OrdU.no (by kernel_rfl)) (fun _ => ?_)
        clear hK K'
        try simp only [Act.put, List.setIfInBounds_toArray, List.set_cons_zero, List.set_cons_succ]
        refine OrdU.wpAnyU_done (by kernel_rfl) ?_ _
        go_wp2_with fail
        go_meet
        exact ⟨K, κ, by rw [HB.out.1], HB.out.2⟩
    · go_simp
      obtain ⟨hb1, ha, hl1⟩ := HA.out c0 hB0
      obtain ⟨c1, hc⟩ : ∃ c, c0.alloc (.cells (madeCells #[.slice none 0 0] p.vs.length) 22) = c := ⟨_, rfl⟩
      rw [hc] at hb1 ha hl1 ⊢
      clear hc
      have hB1 := hB0.trans (hb1.mono hB0.size)
      refine hK.out _ _ (fun _ => HSS.out _ hB1) (fun hHeld => ?_)
      replace hHeld := hHeld (by kernel_rfl)
      clear hK K'
      try simp only [Act.put, List.setIfInBounds_toArray, List.set_cons_zero, List.set_cons_succ]
      refine OrdU.wpAnyU_ready (rs := [4, 9]) (by kernel_rfl) (by simp) ?_
      refine OrdU.AllReadyU.cons (o := ⟨some 14, _, _, _, _, none⟩) rfl (fun K' hK => ?_) (OrdU.AllReadyU.cons (o := ⟨some 19, _, _, _, _, none⟩) rfl (fun K' hK => ?_) OrdU.AllReadyU.nil)
      · go_simp
        go_at_call 32
        with_reducible refine (HE.out c1 hB1).mono ?_
        rintro e c2 ⟨rfl, hl2, hen, hb2⟩
        go_wp2_with fail
        have hB2 := hB1.trans (hb2.mono hB1.size)
        refine hK.out _ _ (fun _ => HSS.out _ hB2) (fun hHeld => ?_)
        replace hHeld := hHeld (by kernel_rfl)
        clear hK K'
        try simp only [Act.put, List.setIfInBounds_toArray, List.set_cons_zero, List.set_cons_succ]
        refine OrdU.wpAnyU_ready (rs := [9, 14]) (by kernel_rfl) (by simp) ?_
        refine OrdU.AllReadyU.cons (o := ⟨some 19, _, _, _, _, none⟩) rfl (fun K' hK => ?_) (OrdU.AllReadyU.cons (o := ⟨some 24, _, _, _, _, none⟩) rfl (fun K' hK => ?_) OrdU.AllReadyU.nil)
        · go_simp
          obtain ⟨hb3, hv, hl3⟩ := HV.out c2 hB2
          obtain ⟨c3, hc⟩ : ∃ c, c2.alloc (.cells (madeCells #[.int .i64 0] p.vs.length) 3) = c := ⟨_, rfl⟩
          rw [hc] at hb3 hv hl3 ⊢
          clear hc
          have hB3 := hB2.trans (hb3.mono hB2.size)
          refine hK.out _ _ (fun _ => HSS.out _ hB3) (fun hHeld => ?_)
          replace hHeld := hHeld (by kernel_rfl)
          clear hK K'
          try simp only [Act.put, List.setIfInBounds_toArray, List.set_cons_zero, List.set_cons_succ]
          refine OrdU.wpAnyU_ready (rs := [14]) (by kernel_rfl) (by simp) ?_
          refine OrdU.AllReadyU.cons (o := ⟨some 24, _, _, _, _, none⟩) rfl (fun K' hK => ?_) OrdU.AllReadyU.nil
          go_simp
          go_at_call 33
          with_reducible refine (HACT.out c3).mono ?_
          rintro e c4 ⟨vv, rfl, hmap, hmade, hb4⟩
          have hl4 := hmap.lt
          go_wp2_with fail
          have hB4 := hB3.trans (hb4.mono hB3.size)
          refine hK.out _ _ (fun _ => HSS.out _ hB4) (fun hHeld => ?_)
          replace hHeld := hHeld (by kernel_rfl)
          clear hK K'
          try simp only [Act.put, List.setIfInBounds_toArray, List.set_cons_zero, List.set_cons_succ]
          have hs1 := hb1.size
          have hs2 := hb2.size
          have hs3 := hb3.size
          have hs4 := hb4.size
          have hE4 := (below2 hb3 hb4)
          have hV4 := hb4
          have hA4 := (below2 (below2 hb2 hb3) hb4)
          have hM4 := (Below.refl c4.heap.size c4)
          obtain ⟨K, κ, hg, hborn⟩ := HBORN.out c4 c1.heap.size c3.heap.size c4.heap.size c2.heap.size c0.heap.size vv hB4 (fun i hi => (hE4.cell (p := ⟨c1.heap.size, i, none⟩) hl2).trans (hen i hi)) (map_move hmap (hM4.block _ hl4)) (fun t h1 h2 => (hmade.acts (C := fun k => c3.heap.size < k ∧ k < c4.heap.size) (fun k q r => ⟨q, r⟩) t h1 h2).keep (fun k q r => hM4.block k r)) (own_of_block hv (fun i e => hV4.block i (hv.lt i e).2)) (own_of_block ha (fun i e => hA4.block i (ha.lt i e).2)) (by have := hB0.size; omega)
          have HB := Lib.hid (And.intro hg hborn)
          clear hg hborn hE4 hV4 hA4 hM4
          refine OrdU.wpAnyU_ready (rs := [15]) (by kernel_rfl) (by simp) ?_
          refine OrdU.AllReadyU.cons (o := ⟨some 25, _, _, _, _, none⟩) rfl (fun K' hK => ?_) OrdU.AllReadyU.nil
          go_simp
          refine hK.out _ _ (OrdU.no (by kernel_rfl)) (fun _ => ?_)
          clear hK K'
          try simp only [Act.put, List.setIfInBounds_toArray, List.set_cons_zero, List.set_cons_succ]
          refine OrdU.wpAnyU_ready (rs := [16]) (by kernel_rfl) (by simp) ?_
          refine OrdU.AllReadyU.cons (o := ⟨some 26, _, _, _, _, none⟩) rfl (fun K' hK => ?_) OrdU.AllReadyU.nil
          go_simp
          refine hK.out _ _ (OrdU.no (by kernel_rfl)) (fun _ => ?_)
          clear hK K'
          try simp only [Act.put, List.setIfInBounds_toArray, List.set_cons_zero, List.set_cons_succ]
          refine OrdU.wpAnyU_ready (rs := [17]) (by kernel_rfl) (by simp) ?_
          refine OrdU.AllReadyU.cons (o := ⟨some 7, _, _, _, _, none⟩) rfl (fun K' hK => ?_) OrdU.AllReadyU.nil
          go_simp
          refine hK.out _ _ (OrdU.no (by kernel_rfl)) (fun _ => ?_)
          clear hK K'
          try simp only [Act.put, List.setIfInBounds_toArray, List.set_cons_zero, List.set_cons_succ]
          refine OrdU.wpAnyU_done (by kernel_rfl) ?_ _
          go_wp2_with fail
          go_meet
          exact ⟨K, κ, by rw [HB.out.1], HB.out.2⟩
        · go_simp
          go_at_call 33
          with_reducible refine (HACT.out c2).mono ?_
          rintro e c3 ⟨vv, rfl, hmap, hmade, hb3⟩
          have hl3 := hmap.lt
          go_wp2_with fail
          have hB3 := hB2.trans (hb3.mono hB2.size)
          refine hK.out _ _ (fun _ => HSS.out _ hB3) (fun hHeld => ?_)
          replace hHeld := hHeld (by kernel_rfl)
          clear hK K'
          try simp only [Act.put, List.setIfInBounds_toArray, List.set_cons_zero, List.set_cons_succ]
          refine OrdU.wpAnyU_ready (rs := [9]) (by kernel_rfl) (by simp) ?_
          refine OrdU.AllReadyU.cons (o := ⟨some 19, _, _, _, _, none⟩) rfl (fun K' hK => ?_) OrdU.AllReadyU.nil
          go_simp
          obtain ⟨hb4, hv, hl4⟩ := HV.out c3 hB3
          obtain ⟨c4, hc⟩ : ∃ c, c3.alloc (.cells (madeCells #[.int .i64 0] p.vs.length) 3) = c := ⟨_, rfl⟩
          rw [hc] at hb4 hv hl4 ⊢
          clear hc
          have hB4 := hB3.trans (hb4.mono hB3.size)
          refine hK.out _ _ (fun _ => HSS.out _ hB4) (fun hHeld => ?_)
          replace hHeld := hHeld (by kernel_rfl)
          clear hK K'
          try simp only [Act.put, List.setIfInBounds_toArray, List.set_cons_zero, List.set_cons_succ]
          have hs1 := hb1.size
          have hs2 := hb2.size
          have hs3 := hb3.size
          have hs4 := hb4.size
          have hE4 := (below2 hb3 hb4)
          have hV4 := (Below.refl c4.heap.size c4)
          have hA4 := (below2 (below2 hb2 hb3) hb4)
          have hM4 := hb4
          obtain ⟨K, κ, hg, hborn⟩ := HBORN.out c4 c1.heap.size c2.heap.size c3.heap.size c3.heap.size c0.heap.size vv hB4 (fun i hi => (hE4.cell (p := ⟨c1.heap.size, i, none⟩) hl2).trans (hen i hi)) (map_move hmap (hM4.block _ hl3)) (fun t h1 h2 => (hmade.acts (C := fun k => c2.heap.size < k ∧ k < c3.heap.size) (fun k q r => ⟨q, r⟩) t h1 h2).keep (fun k q r => hM4.block k r)) (own_of_block hv (fun i e => hV4.block i (hv.lt i e).2)) (own_of_block ha (fun i e => hA4.block i (ha.lt i e).2)) (by have := hB0.size; omega)
          have HB := Lib.hid (And.intro hg hborn)
          clear hg hborn hE4 hV4 hA4 hM4
          refine OrdU.wpAnyU_ready (rs := [15]) (by kernel_rfl) (by simp) ?_
          refine OrdU.AllReadyU.cons (o := ⟨some 25, _, _, _, _, none⟩) rfl (fun K' hK => ?_) OrdU.AllReadyU.nil
          go_simp
          refine hK.out _ _ (OrdU.no (by kernel_rfl)) (fun _ => ?_)
          clear hK K'
          try simp only [Act.put, List.setIfInBounds_toArray, List.set_cons_zero, List.set_cons_succ]
          refine OrdU.wpAnyU_ready (rs := [16]) (by kernel_rfl) (by simp) ?_
          refine OrdU.AllReadyU.cons (o := ⟨some 26, _, _, _, _, none⟩) rfl (fun K' hK => ?_) OrdU.AllReadyU.nil
          go_simp
          refine hK.out _ _ (OrdU.no (by kernel_rfl)) (fun _ => ?_)
          clear hK K'
          try simp only [Act.put, List.setIfInBounds_toArray, List.set_cons_zero, List.set_cons_succ]
          refine OrdU.wpAnyU_ready (rs := [17]) (by kernel_rfl) (by simp) ?_
          refine OrdU.AllReadyU.cons (o := ⟨some 7, _, _, _, _, none⟩) rfl (fun K' hK => ?_) OrdU.AllReadyU.nil
          go_simp
          refine hK.out _ _ (OrdU.no (by kernel_rfl)) (fun _ => ?_)
          clear hK K'
          try simp only [Act.put, List.setIfInBounds_toArray, List.set_cons_zero, List.set_cons_succ]
          refine OrdU.wpAnyU_done (by kernel_rfl) ?_ _
          go_wp2_with fail
          go_meet
          exact ⟨K, κ, by rw [HB.out.1], HB.out.2⟩
      · go_simp
        obtain ⟨hb2, hv, hl2⟩ := HV.out c1 hB1
        obtain ⟨c2, hc⟩ : ∃ c, c1.alloc (.cells (madeCells #[.int .i64 0] p.vs.length) 3) = c := ⟨_, rfl⟩
        rw [hc] at hb2 hv hl2 ⊢
        clear hc
        have hB2 := hB1.trans (hb2.mono hB1.size)
        refine hK.out _ _ (fun _ => HSS.out _ hB2) (fun hHeld => ?_)
        replace hHeld := hHeld (by kernel_rfl)
        clear hK K'
        try simp only [Act.put, List.setIfInBounds_toArray, List.set_cons_zero, List.set_cons_succ]
        refine OrdU.wpAnyU_ready (rs := [4]) (by kernel_rfl) (by simp) ?_
        refine OrdU.AllReadyU.cons (o := ⟨some 14, _, _, _, _, none⟩) rfl (fun K' hK => ?_) OrdU.AllReadyU.nil
        go_simp
        go_at_call 32
        with_reducible refine (HE.out c2 hB2).mono ?_
        rintro e c3 ⟨rfl, hl3, hen, hb3⟩
        go_wp2_with fail
        have hB3 := hB2.trans (hb3.mono hB2.size)
        refine hK.out _ _ (fun _ => HSS.out _ hB3) (fun hHeld => ?_)
        replace hHeld := hHeld (by kernel_rfl)
        clear hK K'
        try simp only [Act.put, List.setIfInBounds_toArray, List.set_cons_zero, List.set_cons_succ]
        refine OrdU.wpAnyU_ready (rs := [14]) (by kernel_rfl) (by simp) ?_
        refine OrdU.AllReadyU.cons (o := ⟨some 24, _, _, _, _, none⟩) rfl (fun K' hK => ?_) OrdU.AllReadyU.nil
        go_simp
        go_at_call 33
        with_reducible refine (HACT.out c3).mono ?_
        rintro e c4 ⟨vv, rfl, hmap, hmade, hb4⟩
        have hl4 := hmap.lt
        go_wp2_with fail
        have hB4 := hB3.trans (hb4.mono hB3.size)
        refine hK.out _ _ (fun _ => HSS.out _ hB4) (fun hHeld => ?_)
        replace hHeld := hHeld (by kernel_rfl)
        clear hK K'
        try simp only [Act.put, List.setIfInBounds_toArray, List.set_cons_zero, List.set_cons_succ]
        have hs1 := hb1.size
        have hs2 := hb2.size
        have hs3 := hb3.size
        have hs4 := hb4.size
        have hE4 := hb4
        have hV4 := (below2 hb3 hb4)
        have hA4 := (below2 (below2 hb2 hb3) hb4)
        have hM4 := (Below.refl c4.heap.size c4)
        obtain ⟨K, κ, hg, hborn⟩ := HBORN.out c4 c2.heap.size c3.heap.size c4.heap.size c1.heap.size c0.heap.size vv hB4 (fun i hi => (hE4.cell (p := ⟨c2.heap.size, i, none⟩) hl3).trans (hen i hi)) (map_move hmap (hM4.block _ hl4)) (fun t h1 h2 => (hmade.acts (C := fun k => c3.heap.size < k ∧ k < c4.heap.size) (fun k q r => ⟨q, r⟩) t h1 h2).keep (fun k q r => hM4.block k r)) (own_of_block hv (fun i e => hV4.block i (hv.lt i e).2)) (own_of_block ha (fun i e => hA4.block i (ha.lt i e).2)) (by have := hB0.size; omega)
        have HB := Lib.hid (And.intro hg hborn)
        clear hg hborn hE4 hV4 hA4 hM4
        refine OrdU.wpAnyU_ready (rs := [15]) (by kernel_rfl) (by simp) ?_
        refine OrdU.AllReadyU.cons (o := ⟨some 25, _, _, _, _, none⟩) rfl (fun K' hK => ?_) OrdU.AllReadyU.nil
        go_simp
        refine hK.out _ _ (OrdU.no (by kernel_rfl)) (fun _ => ?_)
        clear hK K'
        try simp only [Act.put, List.setIfInBounds_toArray, List.set_cons_zero, List.set_cons_succ]
        refine OrdU.wpAnyU_ready (rs := [16]) (by kernel_rfl) (by simp) ?_
        refine OrdU.AllReadyU.cons (o := ⟨some 26, _, _, _, _, none⟩) rfl (fun K' hK => ?_) OrdU.AllReadyU.nil
        go_simp
        refine hK.out _ _ (OrdU.no (by kernel_rfl)) (fun _ => ?_)
        clear hK K'
        try simp only [Act.put, List.setIfInBounds_toArray, List.set_cons_zero, List.set_cons_succ]
        refine OrdU.wpAnyU_ready (rs := [17]) (by kernel_rfl) (by simp) ?_
        refine OrdU.AllReadyU.cons (o := ⟨some 7, _, _, _, _, none⟩) rfl (fun K' hK => ?_) OrdU.AllReadyU.nil
        go_simp
        refine hK.out _ _ (OrdU.no (by kernel_rfl)) (fun _ => ?_)
        clear hK K'
        try simp only [Act.put, List.setIfInBounds_toArray, List.set_cons_zero, List.set_cons_succ]
        refine OrdU.wpAnyU_done (by kernel_rfl) ?_ _
        go_wp2_with fail
        go_meet
        exact ⟨K, κ, by rw [HB.out.1], HB.out.2⟩
  case rest =>
    obtain ⟨K, κ, rfl, hBn⟩ := hcut
    obtain ⟨vb, hkv⟩ := hBn.kv
    obtain ⟨ab, hka⟩ := hBn.ka
    have c7 : wc.cell? ⟨K.g, 7, none⟩ = some (.slice (some ⟨vb, 0, none⟩) p.vs.length p.vs.length) := (hBn.pm.cell 7).trans (congrArg some hkv)
    have HKB := Lib.hid (And.intro hBn.kb (And.intro hBn.kp hBn.kf))
    have HKA := Lib.hid hka
    have HIA := Lib.hid (HA1.out.at hBn.below)
    have HBN := Lib.hid hBn
    have HKV := Lib.hid hkv
    clear hBn hkv hka
    go_wp2_with (first | (refine copy_args rfl _ _ rfl args rfl rfl HBN.out HKV.out HIA.out hle ?_; intro v2 w2 hM2; have b2 := HSS.out w2 (by obtain ⟨_, _, _, -, -, -, -, -, -, -, q⟩ := hM2; exact q); obtain ⟨b2a, b2b⟩ := b2; have HM2 := Lib.hid hM2; clear hM2) | fail)
    go_loopw [36] (fun i wr => ∃ k : Nat, k ≤ p.vs.length ∧ i = .int .i64 k ∧ Making p args F W1 K k wr) (fun i _ => p.vs.length - (intOf i).toNat)
    case atStart => exact ⟨0, by omega, rfl, HM2.out⟩
    case round =>
      obtain ⟨k, hk, rfl, hM⟩ := hrel
      by_cases hlt : k < p.vs.length
      · obtain ⟨t, ht⟩ : ∃ t, p.vs[k]? = some t := ⟨_, List.getElem?_eq_getElem hlt⟩
        have hM0 := hM
        obtain ⟨κ2, Y2, s2, hP, h1, h2, h3, h4, h5, h6, hB⟩ := hM0
        obtain ⟨vd, hvd, -, d0⟩ := (HP1.out.at hB).vars k t ht
        have c8 : wr.cell? ⟨K.g, 8, none⟩ = some (.slice (some ⟨ab, 0, none⟩) p.vs.length p.vs.length) := (hP.cell 8).trans (congrArg some HKA.out)
        have hg0 : 0 ≤ asz t := by unfold asz; split <;> omega
        have hg1 : asz t ≤ 8 := by unfold asz; split <;> omega
        obtain ⟨z, hz⟩ := Int.eq_ofNat_of_zero_le hg0
        have HZ := Lib.hid (fun W => show Calls Tryz.prog 28 #[.int .i64 t] W fun e w' => e = .returned (.int .i64 (z : Int)) ∧ w' = W from by rw [← hz]; exact Size_any t W)
        have hmk3 : ∀ W : World, (Instr.makeSlice 22 (.int .i64 (z : Int)) (.int .i64 (z : Int))).run Tryz.prog W = .ok (.slice (some ⟨W.heap.size, 0, none⟩) z z) (W.alloc (.cells (madeCells #[.int .i64 0] z) 3)) := fun W => by
          have := run_make (P := Tryz.prog) W 22 3 ig _ Tryz.underlying22 hig hz0 .i64 .i64 (z : Int) (z : Int) (by omega) (by omega) (by rw [hz2]; omega) (by omega)
          rw [hz1, Int.toNat_natCast, Nat.mul_one] at this
          exact this
        have hN : Making p args F W1 K k wr.drew := ⟨κ2, Y2, s2, hP.drew, h1, h2, h3, h4, h5, h6, hB.drew⟩
        have HN := Lib.hid (hN.next HKB.out.1 HKA.out ht hz (by simp only [maxLen]; omega))
        have hbA : Below wr.drew.heap.size wr.drew (wr.drew.alloc (.cells (madeCells #[.int .i64 0] z) 3)) := (Below.refl _ _).alloc (Nat.le_refl _) _
        have hC2 : (fun w' => w'.cell? ⟨K.g, 8, none⟩ = some (.slice (some ⟨ab, 0, none⟩) p.vs.length p.vs.length)) wr.drew := c8
        have hPA := hP.drew.below hbA
        have hC3 : (fun w' => w'.cell? ⟨K.g, 8, none⟩ = some (.slice (some ⟨ab, 0, none⟩) p.vs.length p.vs.length)) (wr.drew.alloc (.cells (madeCells #[.int .i64 0] z) 3)) := (hPA.cell 8).trans (congrArg some HKA.out)
        have hfz : ∀ j, (wr.alloc (.cells (madeCells #[.int .i64 0] z) 3)).drew.frozen? ⟨ab, j, none⟩ = false := fun j => by
          have := hPA.ar
          rw [HKA.out, h4] at this
          exact World.ownsRow.frozenAt this j
        have hcl : (wr.alloc (.cells (madeCells #[.int .i64 0] z) 3)).drew.cell? ⟨ab, k, none⟩ = some (.slice none 0 0) := by
          have := hPA.ar
          rw [HKA.out, h4] at this
          refine (World.ownsRow.cellAt this k (by omega)).trans ?_
          unfold tcells
          rw [List.getElem?_map, h6 k (Nat.le_refl _) hlt]; rfl
        have i1 : (k : Int) < (p.vs.length : Int) := by omega
        have i2 : (0 : Int) ≤ (k : Int) := by omega
        rw [hvd]
        clear hP h1 h2 h3 h4 h5 h6 hB hPA hN hM hvd hg0 hg1 hz hbA ht
        go_wp2_with fail
        refine OrdU.wp_region_U 8 (fun w' => w'.cell? ⟨K.g, 8, none⟩ = some (.slice (some ⟨ab, 0, none⟩) p.vs.length p.vs.length)) (by kernel_rfl) hC2 (fun hHeld => ?_)
        refine OrdU.wpAnyU_take (i := 0) (oi := ⟨some 41, _, _, _, _, none⟩) (v := ?_) rfl (by kernel_rfl) (by kernel_rfl) (by kernel_rfl) (by decide) (by kernel_rfl) (fun _ _ _ h => h) (Or.inl ⟨by rfl, ?_⟩) (by assumption) ?_
        rotate_left
        · intro w hSw; (try dsimp only at hSw); go_simp; try with_reducible rfl
        try simp only [Act.put, List.setIfInBounds_toArray, List.set_cons_zero, List.set_cons_succ]
        refine OrdU.wpAnyU_take (i := 1) (oi := ⟨some 42, _, _, _, _, none⟩) (v := ?_) rfl (by kernel_rfl) (by kernel_rfl) (by kernel_rfl) (by decide) (by kernel_rfl) (fun _ _ _ h => h) (Or.inl ⟨by rfl, ?_⟩) (by assumption) ?_
        rotate_left
        · intro w hSw; (try dsimp only at hSw); go_simp; try with_reducible rfl
        try simp only [Act.put, List.setIfInBounds_toArray, List.set_cons_zero, List.set_cons_succ]
        refine OrdU.wpAnyU_take (i := 2) (oi := ⟨some 43, _, _, _, _, none⟩) (v := ?_) rfl (by kernel_rfl) (by kernel_rfl) (by kernel_rfl) (by decide) (by kernel_rfl) (fun _ _ _ h => h) (Or.inl ⟨by rfl, ?_⟩) (by assumption) ?_
        rotate_left
        · intro w hSw; (try dsimp only at hSw); go_simp; try with_reducible rfl
        try simp only [Act.put, List.setIfInBounds_toArray, List.set_cons_zero, List.set_cons_succ]
        refine OrdU.wpAnyU_take (i := 3) (oi := ⟨some 44, _, _, _, _, none⟩) (v := ?_) rfl (by kernel_rfl) (by kernel_rfl) (by kernel_rfl) (by decide) (by kernel_rfl) (fun _ _ _ h => h) (Or.inl ⟨by rfl, ?_⟩) (by assumption) ?_
        rotate_left
        · intro w hSw; (try dsimp only at hSw); go_simp; try with_reducible rfl
        try simp only [Act.put, List.setIfInBounds_toArray, List.set_cons_zero, List.set_cons_succ]
        refine OrdU.wpAnyU_take (i := 4) (oi := ⟨some 45, _, _, _, _, none⟩) (v := ?_) rfl (by kernel_rfl) (by kernel_rfl) (by kernel_rfl) (by decide) (by kernel_rfl) (fun _ _ _ h => h) (Or.inl ⟨by rfl, ?_⟩) (by assumption) ?_
        rotate_left
        · intro w hSw; (try dsimp only at hSw); go_simp; try with_reducible rfl
        try simp only [Act.put, List.setIfInBounds_toArray, List.set_cons_zero, List.set_cons_succ]
        refine OrdU.wpAnyU_take (i := 5) (oi := ⟨some 46, _, _, _, _, none⟩) (v := ?_) rfl (by kernel_rfl) (by kernel_rfl) (by kernel_rfl) (by decide) (by kernel_rfl) (fun _ _ _ h => h) (Or.inl ⟨by rfl, ?_⟩) (by assumption) ?_
        rotate_left
        · intro w hSw; (try dsimp only at hSw); go_simp; try with_reducible rfl
        try simp only [Act.put, List.setIfInBounds_toArray, List.set_cons_zero, List.set_cons_succ]
        refine OrdU.wpAnyU_ready (rs := [6]) (by kernel_rfl) (by simp) ?_
        refine OrdU.AllReadyU.cons (o := ⟨some 47, _, _, _, _, none⟩) rfl (fun K' hK => ?_) OrdU.AllReadyU.nil
        go_simp
        go_at_call 28
        with_reducible refine (HZ.out _).mono ?_
        rintro e w9 ⟨rfl, hw9⟩
        obtain rfl := hw9
        go_wp2_with fail
        refine hK.out _ _ (fun _ => hC2) (fun hHeld => ?_)
        replace hHeld := hHeld (by kernel_rfl)
        clear hK K'
        try simp only [Act.put, List.setIfInBounds_toArray, List.set_cons_zero, List.set_cons_succ]
        refine OrdU.wpAnyU_ready (rs := [7]) (by kernel_rfl) (by simp) ?_
        refine OrdU.AllReadyU.cons (o := ⟨some 48, _, _, _, _, none⟩) rfl (fun K' hK => ?_) OrdU.AllReadyU.nil
        go_simp
        refine hK.out _ _ (fun _ => hC3) (fun hHeld => ?_)
        replace hHeld := hHeld (by kernel_rfl)
        clear hK K'
        try simp only [Act.put, List.setIfInBounds_toArray, List.set_cons_zero, List.set_cons_succ]
        refine OrdU.wpAnyU_ready (rs := [8]) (by kernel_rfl) (by simp) ?_
        refine OrdU.AllReadyU.cons (o := ⟨some 49, _, _, _, _, none⟩) rfl (fun K' hK => ?_) OrdU.AllReadyU.nil
        go_simp
        refine hK.out _ _ (OrdU.no (by kernel_rfl)) (fun _ => ?_)
        clear hK K'
        try simp only [Act.put, List.setIfInBounds_toArray, List.set_cons_zero, List.set_cons_succ]
        refine OrdU.wpAnyU_ready (rs := [9]) (by kernel_rfl) (by simp) ?_
        refine OrdU.AllReadyU.cons (o := ⟨none, _, _, _, _, none⟩) rfl (fun K' hK => ?_) OrdU.AllReadyU.nil
        go_simp
        refine hK.out _ _ (OrdU.no (by kernel_rfl)) (fun _ => ?_)
        clear hK K'
        try simp only [Act.put, List.setIfInBounds_toArray, List.set_cons_zero, List.set_cons_succ]
        refine OrdU.wpAnyU_done (by kernel_rfl) ?_ _
        go_wp2_with fail
        go_roundw
        case rel => exact ⟨k + 1, by omega, by go_num, HN.out⟩
        case measure => simp [intOf]; omega
      · have hkn : k = p.vs.length := by omega
        have hlt2 : decide ((k : Int) < (p.vs.length : Int)) = false := decide_eq_false (by omega)
        subst hkn
        obtain ⟨κ2, Y2, hP⟩ := hM.all
        obtain ⟨_, _, _, -, -, -, -, -, -, -, hB⟩ := hM
        have HF := Lib.hid (show StartEnds p args F w (.returned (.pointer (some ⟨K.g, 0, none⟩))) wr from ⟨K, κ2, Y2, rfl, hP, HB1.out.trans (hB.mono HB1.out.size), by rw [HKB.out.1]; exact HB1.out.size, HKB.out.2.1, HKB.out.2.2⟩)
        clear hP hB
        go_wp2_with fail
        go_ret
        exact HF.out
end Go.Proofs.YtodejloonfkkmaaGreat.Mach
