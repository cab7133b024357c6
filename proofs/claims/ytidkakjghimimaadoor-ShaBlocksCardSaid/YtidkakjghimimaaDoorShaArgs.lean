/-
  An array of integers as an argument: what it reads as, and that it reads so again.
-/
import Derived.LaidMore
import Derived.OpenShut
import Derived.ShutString
import Derived.ProofKit
import Derived.WideKeyArr2
import Derived.Test.YtidkakjghimimaaDoorShaRow
namespace Go.Proofs.YtidkakjghimimaaDoor.Sha
open Go.ChangeShapes Go.WideShapes Go.ChangeAt Go.WideElems Go.RowKit

def intsOf (k : IntKind) (zs : List Int) : Array Value := (zs.map (Value.int k)).toArray
def litsOf {H : Type} (k : IntKind) (zs : List Int) : DataW H := .agg (zs.map fun z => .lit (.int k z))

section
variable {H : Type} {enc : TypeId × Value → H} {P : Program} {w : World} {base : Nat} {spare : Nat → Bool} {held : Bool}

theorem okWide_ints {r : Reach} {b0 : Nat} {t e : TypeId} {n : Nat} {v : Value} (ht : P.underlying t = some (.array n e)) (h : Value.okWide P w r b0 t v) : ∃ cs, v = .agg cs := by
  simp only [Value.okWide, ht] at h
  obtain ⟨cs, h1, _⟩ := h
  exact ⟨cs, h1⟩

theorem open_ints_arr {r : Reach} {b0 : Nat} {t e : TypeId} {n : Nat} {k : IntKind} {v : Value} {d : DataW H} {ps : List MemPlace} (ht : P.underlying t = some (.array n e)) (he : P.underlying e = some (.int k)) (hc : P.cellsOf e = 1) (hn : P.cellsOf t = n)
    (hval : Value.okWide P w r b0 t v) (hd : DataW.Trod enc P w base spare held t v d ps) :
    ∃ zs : List Int, zs.length = n ∧ (∀ z ∈ zs, (Lit.int k z).wf = true) ∧ v = .agg (intsOf k zs) ∧ d = litsOf k zs ∧ ps = [] := by
  obtain ⟨cs, rfl⟩ := okWide_ints ht hval
  obtain ⟨fuel, hf⟩ := hd
  obtain ⟨xs, m1, rfl, hx1, hlen, hn3, hel⟩ := DataW.trod_array ht hf
  have hsz : cs.size = n := by
    have : (Value.agg cs).cells.toList.length = P.cellsOf t := hlen
    rw [hn] at this
    simpa [Value.cells] using this
  have key : ∀ i, (hi : i < n) → ∃ z, cs[i]? = some (.int k z) ∧ xs[i]? = some (.lit (.int k z), []) ∧ (Lit.int k z).wf = true := by
    intro i hi
    have h0 := hel i hi
    rw [hc, Nat.mul_one, List.getElem?_eq_getElem (by omega)] at h0
    obtain ⟨z, e1, e2, e3⟩ := DataW.trod_int he h0
    refine ⟨z, ?_, by rw [List.getElem?_eq_getElem (by omega), e2], e3⟩
    have := congrArg (fun l => l[0]?) e1
    simpa [Value.cells, List.getElem?_take, List.getElem?_drop] using this
  let f : Nat → Int := fun i => match cs[i]? with | some (.int _ z) => z | _ => 0
  have hf : ∀ i, i < n → cs[i]? = some (.int k (f i)) ∧ xs[i]? = some (.lit (.int k (f i)), []) ∧ (Lit.int k (f i)).wf = true := by
    intro i hi
    obtain ⟨z, h1, h2, h3⟩ := key i hi
    have : f i = z := by simp only [f, h1]
    rw [this]
    exact ⟨h1, h2, h3⟩
  simp only [Prod.mk.injEq] at hx1
  have hxs : xs = (List.range n).map fun i => (.lit (.int k (f i)), []) := by
    apply List.ext_getElem?
    intro i
    by_cases hi : i < n
    · rw [(hf i hi).2.1]; simp [hi]
    · rw [List.getElem?_eq_none (by omega), List.getElem?_eq_none (by simp; omega)]
  refine ⟨(List.range n).map f, by simp, ?_, ?_, ?_, ?_⟩
  · intro z hz
    obtain ⟨i, hi, rfl⟩ := List.mem_map.1 hz
    exact (hf i (List.mem_range.1 hi)).2.2
  · congr 1
    apply Array.ext_getElem?
    intro i
    by_cases hi : i < n
    · rw [(hf i hi).1]; simp [intsOf, hi]
    · rw [Array.getElem?_eq_none (by omega), Array.getElem?_eq_none (by simp [intsOf]; omega)]
  · rw [hx1.1, hxs]; simp [litsOf, Function.comp_def]
  · rw [hx1.2, hxs]; simp [List.flatMap_eq_nil_iff]

theorem mapM_some {α β : Type} (f : α → Option β) (g : α → β) : ∀ L : List α, (∀ i ∈ L, f i = some (g i)) → L.mapM f = some (L.map g)
  | [], _ => rfl
  | a :: L, h => by
    rw [List.mapM_cons, h a (by simp), mapM_some f g L (fun i hi => h i (by simp [hi]))]
    rfl

theorem shut_ints_arr {t e : TypeId} {n : Nat} {k : IntKind} {zs : List Int} (ht : P.underlying t = some (.array n e)) (he : P.underlying e = some (.int k)) (hc : P.cellsOf e = 1) (hn : P.cellsOf t = n)
    (hl : zs.length = n) (hw : ∀ z ∈ zs, (Lit.int k z).wf = true) : DataW.Trod enc P w base spare held t (.agg (intsOf k zs)) (litsOf k zs) [] := by
  refine ⟨2, ?_⟩
  rw [DataW.trod_step]
  unfold DataW.trodStep
  simp only [ht, Value.cells]
  rw [if_pos (by rw [hn]; simp [intsOf, hl])]
  have hg := mapM_some (fun i => DataW.trod enc P w base spare held 1 e (List.take (P.cellsOf e) (List.drop (i * P.cellsOf e) (intsOf k zs).toList))) (fun i => ((.lit (.int k (zs.getD i 0)), []) : DataW H × List MemPlace)) (List.range n) ?_
  · rw [hg]
    simp only [Option.map_some, Option.some.injEq, Prod.mk.injEq]
    constructor
    · unfold litsOf
      congr 1
      apply List.ext_getElem?
      intro i
      by_cases hi : i < n
      · simp [hi, hl]
      · rw [List.getElem?_eq_none (by simp; omega), List.getElem?_eq_none (by simp; omega)]
    · simp [List.flatMap_eq_nil_iff]
  · intro i hi
    have hi' : i < zs.length := by rw [hl]; exact List.mem_range.1 hi
    have ht1 : List.take (P.cellsOf e) (List.drop (i * P.cellsOf e) (intsOf k zs).toList) = [.int k (zs.getD i 0)] := by
      rw [hc, Nat.mul_one]
      apply List.ext_getElem?
      intro j
      rcases j with _ | j
      · simp [intsOf, List.getElem?_drop, List.getElem?_eq_getElem hi', List.getD_eq_getElem?_getD]
      · simp [List.getElem?_take]
    rw [ht1]
    have hwz : (Lit.int k (zs.getD i 0)).wf = true := hw _ (by rw [List.getD_eq_getElem?_getD, List.getElem?_eq_getElem hi']; exact List.getElem_mem hi')
    generalize zs.getD i 0 = z at *
    simp [DataW.trod, he, hwz]
end

theorem ints_u32 (zs : List Int) (h : ∀ z ∈ zs, (Lit.int .u32 z).wf = true) : ∃ l : List Nat, l.length = zs.length ∧ Words l ∧ intsOf .u32 zs = u32s l := by
  refine ⟨zs.map Int.toNat, by simp, ?_, ?_⟩
  · intro x hx
    obtain ⟨z, hz, rfl⟩ := List.mem_map.1 hx
    have := h z hz
    simp [Lit.wf, IntKind.min, IntKind.max, IntKind.signed, IntKind.bits] at this
    omega
  · unfold intsOf u32s
    rw [List.map_map]
    congr 1
    apply List.map_congr_left
    intro z hz
    have := h z hz
    simp [Lit.wf, IntKind.min, IntKind.max, IntKind.signed, IntKind.bits] at this
    simp
    omega
theorem ints_u8 (zs : List Int) (h : ∀ z ∈ zs, (Lit.int .u8 z).wf = true) : ∃ l : List UInt8, l.length = zs.length ∧ intsOf .u8 zs = u8s l := by
  refine ⟨zs.map fun z => UInt8.ofNat z.toNat, by simp, ?_⟩
  unfold intsOf u8s
  rw [List.map_map]
  congr 1
  apply List.map_congr_left
  intro z hz
  have := h z hz
  simp [Lit.wf, IntKind.min, IntKind.max, IntKind.signed, IntKind.bits] at this
  simp
  omega

end Go.Proofs.YtidkakjghimimaaDoor.Sha
