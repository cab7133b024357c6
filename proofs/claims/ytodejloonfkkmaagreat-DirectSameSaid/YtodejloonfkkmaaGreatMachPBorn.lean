/-
  Package machine, walked: a run as it is made.
-/
import Derived.Test.YtodejloonfkkmaaGreatMachPAny
import Derived.Test.YtodejloonfkkmaaGreatMachPMap
import Derived.Test.YtodejloonfkkmaaGreatMachPEnds
import Derived.Laws.MakeOwn
import Derived.Laws.CopyOwn
import Derived.Deep.CutBlock
import Derived.Deep.CutRange
set_option linter.unusedVariables false
namespace Go.Proofs.YtodejloonfkkmaaGreat.Mach
open Go.RowKit Mem _root_.Go.Proofs.YtodejloonfkkmaaGreat.Arena _root_.Go.Proofs.YtodejloonfkkmaaGreat.Kinds _root_.Go.Proofs.YtodejloonfkkmaaGreat.Path _root_.Go.Proofs.YtodejloonfkkmaaGreat.Cat _root_.Go.Proofs.YtodejloonfkkmaaGreat.Suite
attribute [local go_sem ↓] Go.wp_at_zero Go.wp_at_succ

theorem ActV.keep {W W' : World} {C : Nat → Prop} {t : Int} {v : Value} (h : ActV W C t v) (hk : ∀ k, C k → k < W.heap.size → W'.heap[k]? = W.heap[k]?) : ActV W' C t v := by
  have hb : ∀ {b : Nat} {ty : TypeId} {x : Value}, BoxIn W C b ty x → BoxIn W' C b ty x := fun q => ⟨(hk _ q.2 q.1.lt).trans q.1, q.2⟩
  unfold ActV at h ⊢
  rcases h with h | h | h | h | h | h | h | h | h | ⟨h1, b, h2, h3⟩ | ⟨b, q, h1, h2, h3⟩ | ⟨b, c, q, h1, h2, h3, h4⟩ | ⟨b, c, q, h1, h2, h3, h4⟩
  · exact .inl h
  · exact .inr (.inl h)
  · exact .inr (.inr (.inl h))
  · exact .inr (.inr (.inr (.inl h)))
  · exact .inr (.inr (.inr (.inr (.inl h))))
  · exact .inr (.inr (.inr (.inr (.inr (.inl h)))))
  · exact .inr (.inr (.inr (.inr (.inr (.inr (.inl h))))))
  · exact .inr (.inr (.inr (.inr (.inr (.inr (.inr (.inl h)))))))
  · exact .inr (.inr (.inr (.inr (.inr (.inr (.inr (.inr (.inl h))))))))
  · exact .inr (.inr (.inr (.inr (.inr (.inr (.inr (.inr (.inr (.inl ⟨h1, b, h2, hb h3⟩)))))))))
  · exact .inr (.inr (.inr (.inr (.inr (.inr (.inr (.inr (.inr (.inr (.inl ⟨b, q, h1, h2, hb h3⟩))))))))))
  · exact .inr (.inr (.inr (.inr (.inr (.inr (.inr (.inr (.inr (.inr (.inr (.inl ⟨b, c, q, h1, h2, hb h3, hb h4⟩)))))))))))
  · exact .inr (.inr (.inr (.inr (.inr (.inr (.inr (.inr (.inr (.inr (.inr (.inr ⟨b, c, q, h1, h2, hb h3, hb h4⟩)))))))))))
theorem ActV.to {W : World} {C C' : Nat → Prop} {t : Int} {v : Value} (h : ActV W C t v) (hC : ∀ k, C k → C' k) : ActV W C' t v := by
  have hb : ∀ {b : Nat} {ty : TypeId} {x : Value}, BoxIn W C b ty x → BoxIn W C' b ty x := fun q => ⟨q.1, hC _ q.2⟩
  unfold ActV at h ⊢
  rcases h with h | h | h | h | h | h | h | h | h | ⟨h1, b, h2, h3⟩ | ⟨b, q, h1, h2, h3⟩ | ⟨b, c, q, h1, h2, h3, h4⟩ | ⟨b, c, q, h1, h2, h3, h4⟩
  · exact .inl h
  · exact .inr (.inl h)
  · exact .inr (.inr (.inl h))
  · exact .inr (.inr (.inr (.inl h)))
  · exact .inr (.inr (.inr (.inr (.inl h))))
  · exact .inr (.inr (.inr (.inr (.inr (.inl h)))))
  · exact .inr (.inr (.inr (.inr (.inr (.inr (.inl h))))))
  · exact .inr (.inr (.inr (.inr (.inr (.inr (.inr (.inl h)))))))
  · exact .inr (.inr (.inr (.inr (.inr (.inr (.inr (.inr (.inl h))))))))
  · exact .inr (.inr (.inr (.inr (.inr (.inr (.inr (.inr (.inr (.inl ⟨h1, b, h2, hb h3⟩)))))))))
  · exact .inr (.inr (.inr (.inr (.inr (.inr (.inr (.inr (.inr (.inr (.inl ⟨b, q, h1, h2, hb h3⟩))))))))))
  · exact .inr (.inr (.inr (.inr (.inr (.inr (.inr (.inr (.inr (.inr (.inr (.inl ⟨b, c, q, h1, h2, hb h3, hb h4⟩)))))))))))
  · exact .inr (.inr (.inr (.inr (.inr (.inr (.inr (.inr (.inr (.inr (.inr (.inr ⟨b, c, q, h1, h2, hb h3, hb h4⟩)))))))))))
/-- A state whose variables are 0, and whose arrays are not made. -/
def bare0 (n F : Nat) : St := ⟨List.replicate n 0, List.replicate n [], F, 0, [], 0, 0, false⟩
def bareY (n : Nat) : List ((Option Addr × Nat) × List Int) := List.replicate n ((none, 0), [])
/-- A run that was made, but for its variables and arrays. -/
structure Born (p : Prg) (F : Nat) (w : World) (K : PK) (κ : Nat → Nat) (W : World) : Prop where
  pm : PM K κ (.slice none 0 0) (.slice none 0 0) (bareY p.vs.length) (bare0 p.vs.length F) [] W
  below : Below w.heap.size w W
  kb : K.base = w.heap.size
  kp : K.p = p
  kf : K.F = F
  kv : ∃ vb, K.vv = .slice (some ⟨vb, 0, none⟩) p.vs.length p.vs.length
  ka : ∃ ab, K.av = .slice (some ⟨ab, 0, none⟩) p.vs.length p.vs.length
theorem born_of (p : Prg) (F : Nat) {w c : World} {eb mb mt vb ab : Nat} {v : Nat → Value} (hp : p.Ok w) (hB : Below w.heap.size w c)
    (hends : ∀ i, IsNode p.xs i → c.cell? ⟨eb, i, none⟩ = some (.int .i64 (behind p.xs i)))
    (hmap : c.ownsMap Tryz.prog 3 itselfA mb 26 (tableA (laid v))) (hacts : ∀ t : Int, 1 ≤ t → t ≤ 26 → ActV c (fun k => mb < k ∧ k < mt) t (laid v t))
    (hv : c.ownsRow w.heap.size 3 1 (.slice (some ⟨vb, 0, none⟩) p.vs.length p.vs.length) p.vs.length (icells (List.replicate p.vs.length 0)))
    (ha : c.ownsRow w.heap.size 22 1 (.slice (some ⟨ab, 0, none⟩) p.vs.length p.vs.length) p.vs.length (List.replicate p.vs.length (.slice none 0 0)))
    (hne : vb ≠ ab ∧ vb ≠ eb ∧ ab ≠ eb ∧ (vb < mb ∨ mt ≤ vb) ∧ (ab < mb ∨ mt ≤ ab) ∧ mb < mt ∧ mt ≤ c.heap.size ∧ eb < c.heap.size ∧ w.heap.size ≤ eb ∧ w.heap.size ≤ mb) :
    ∃ K κ, K.g = c.heap.size ∧ Born p F w K κ (c.alloc (.cells #[.int .i64 0, .int .i64 0, .int .i64 0, .slice none 0 0, .slice p.B p.xs.length p.e, .slice (some ⟨eb, 0, none⟩) p.xs.length p.xs.length, .int .i64 (F : Nat), .slice (some ⟨vb, 0, none⟩) p.vs.length p.vs.length, .slice (some ⟨ab, 0, none⟩) p.vs.length p.vs.length, .map (some mb), .slice none 0 0] 64)) := by
  obtain ⟨n1, n2, n3, n4, n5, n6, n7, n8, n9, n10⟩ := hne
  generalize hobj : (Obj.cells #[.int .i64 0, .int .i64 0, .int .i64 0, .slice none 0 0, .slice p.B p.xs.length p.e, .slice (some ⟨eb, 0, none⟩) p.xs.length p.xs.length, .int .i64 (F : Nat), .slice (some ⟨vb, 0, none⟩) p.vs.length p.vs.length, .slice (some ⟨ab, 0, none⟩) p.vs.length p.vs.length, .map (some mb), .slice none 0 0] 64) = ob
  have hbA : Below c.heap.size c (c.alloc ob) := (Below.refl _ _).alloc (Nat.le_refl _) ob
  have hlv := (hv.lt _ rfl)
  have hla := (ha.lt _ rfl)
  have hsz : (c.alloc ob).heap.size = c.heap.size + 1 := World.size_alloc _ _
  have bG : Blk (c.alloc ob) c.heap.size 64 #[.int .i64 0, .int .i64 0, .int .i64 0, .slice none 0 0, .slice p.B p.xs.length p.e, .slice (some ⟨eb, 0, none⟩) p.xs.length p.xs.length, .int .i64 (F : Nat), .slice (some ⟨vb, 0, none⟩) p.vs.length p.vs.length, .slice (some ⟨ab, 0, none⟩) p.vs.length p.vs.length, .map (some mb), .slice none 0 0] := by
    rw [← hobj]; exact Blk.new c _ _
  have hB2 : Below w.heap.size w (c.alloc ob) := hB.trans (hbA.mono hB.size)
  have hbs := hB.size
  refine ⟨⟨w.heap.size, c.heap.size, p, F, eb, p.xs.length, mb, .slice (some ⟨vb, 0, none⟩) p.vs.length p.vs.length, .slice (some ⟨ab, 0, none⟩) p.vs.length p.vs.length, laid v, fun k => (mb ≤ k ∧ k < mt) ∨ k = eb, c.alloc ob⟩,
    fun k => if k = c.heap.size then 1 else if k = vb then 2 else if k = ab then 3 else if (mb ≤ k ∧ k < mt) ∨ k = eb then 6 else 0, rfl, ?_, hB2, rfl, rfl, rfl, ⟨vb, rfl⟩, ⟨ab, rfl⟩⟩
  have hlvb : vb < c.heap.size := hlv.2
  have hlab : ab < c.heap.size := hla.2
  have hlvb2 : w.heap.size ≤ vb := hlv.1
  have hlab2 : w.heap.size ≤ ab := hla.1
  exact {
    lab := {
      g := if_pos rfl
      v := fun k e => by
        obtain rfl : vb = k := Option.some.inj e
        simp only
        rw [if_neg (by omega), if_pos trivial]
      a := fun k e => by
        obtain rfl : ab = k := Option.some.inj e
        simp only
        rw [if_neg (by omega), if_neg (by omega), if_pos trivial]
      e := fun k e => by cases e
      s := fun k e => by cases e
      c := fun k e => by
        have e : (mb ≤ k ∧ k < mt) ∨ k = eb := e
        try simp only
        rw [if_neg (by omega), if_neg (by omega), if_neg (by omega), if_pos e]
      y := fun i y k q e => by
        have := List.mem_of_getElem? q
        rw [List.eq_of_mem_replicate this] at e
        cases e
      lt := fun k q => by
        simp only at q ⊢
        split at q
        · omega
        · split at q
          · omega
          · split at q
            · omega
            · split at q
              · omega
              · exact absurd rfl q }
    cn := {
      body := hp.body.below hB2
      ce := hp.ce
      lx := hp.lx
      size := by rw [hsz]; show w.heap.size ≤ _; omega
      lec := Nat.le_refl _
      ends := fun i hi => by
        rw [← hends i hi]
        exact hbA.cell (p := ⟨eb, i, none⟩) n8
      map := map_move hmap (hbA.block _ hmap.lt)
      acts := fun t h1 h2 => ((hacts t h1 h2).keep fun k q r => hbA.block k r).to fun k q => .inl ⟨by omega, q.2⟩
      same := fun k q => rfl
      ceb := .inr rfl
      cmb := .inl ⟨Nat.le_refl _, n6⟩ }
    blk := bG
    vr := by
      show World.ownsRow _ _ _ _ _ (List.replicate p.vs.length (0 : Int)).length _
      rw [List.length_replicate]
      exact own_of_block hv fun k e => hbA.block k (hv.lt k e).2
    ar := by
      show World.ownsRow _ _ _ _ _ (List.replicate p.vs.length ([] : List Int)).length (tcells (bareY p.vs.length))
      rw [List.length_replicate, show tcells (bareY p.vs.length) = List.replicate p.vs.length (.slice none 0 0) by unfold tcells bareY; rw [List.map_replicate]; rfl]
      exact own_of_block ha fun k e => hbA.block k (ha.lt k e).2
    hY := by unfold bareY bare0; rw [List.map_replicate]
    yr := fun i y q => by
      rw [List.eq_of_mem_replicate (List.mem_of_getElem? q)]
      exact World.ownsRow_nil _ _ _ _
    er := World.ownsRow_nil _ _ _ _
    sr := World.ownsRow_nil _ _ _ _ }
end Go.Proofs.YtodejloonfkkmaaGreat.Mach
