/-
  The laws of layer 9, walked on what the package's functions come to: a part of the same kind and tag instead, all ways.
-/
import Derived.Test.YteknfglfbkknaaaKindsLawG
namespace Go.Proofs.Yteknfglfbkknaaa.Kinds
open Go.RowKit Mem _root_.Go.Proofs.Yteknfglfbkknaaa.Arena
set_option linter.unusedVariables false

theorem kindsReplaced_of (C : Pkg) (p : Prg) (a : Int) (wf : (Lit.int .i64 a).wf = true) (A2 : Option Addr) (c2 : Nat) (ms : List Nd) (hlen2 : ms.length ≤ maxLen) (hcap2 : ms.length ≤ c2) (hA2 : A2 = none → c2 = 0) (w : World) (hp : p.In w) (hm : Nodes w w.heap.size A2 ms) :
    Calls Try.prog 6 #[.agg #[.int .i64 p.ps, .slice p.A p.vs.length p.c, .slice p.B p.xs.length p.e], .int .i64 a, .slice A2 ms.length c2] w fun e w' => e = .returned (.bool true) ∧ Below w.heap.size w w' := by
  obtain ⟨ps, A, c, vs, B, ce, xs⟩ := p
  simp only
  cases hf : fewB ⟨ps, A, c, vs, B, ce, xs⟩ with
  | false => exact replaced_idle C ps A c vs B ce xs a A2 c2 ms w hp (.inl hf)
  | true =>
    by_cases hl : 60 < ms.length
    · exact replaced_idle C ps A c vs B ce xs a A2 c2 ms w hp (.inr (.inl hl))
    by_cases hc : pcheck ps vs xs = 0
    rotate_left
    · exact replaced_idle C ps A c vs B ce xs a A2 c2 ms w hp (.inr (.inr (.inl hc)))
    by_cases h0 : a < 0
    · exact replaced_idle C ps A c vs B ce xs a A2 c2 ms w hp (.inr (.inr (.inr (.inl h0))))
    by_cases h1 : (xs.length : Int) ≤ a
    · exact replaced_idle C ps A c vs B ce xs a A2 c2 ms w hp (.inr (.inr (.inr (.inr h1))))
    obtain ⟨k, rfl⟩ := Int.eq_ofNat_of_zero_le (show 0 ≤ a by omega)
    have hk : k < xs.length := by omega
    obtain ⟨n, hs⟩ := pcheck_at hc hk
    obtain ⟨⟨t2, n2⟩, hxk⟩ : ∃ x, xs[k]? = some x := ⟨_, List.getElem?_eq_getElem hk⟩
    obtain ⟨ad, hB, -⟩ := hp.body k _ hxk
    simp only at hB
    subst hB
    by_cases he : aend ms 0 = ms.length
    rotate_left
    · exact replaced_end C ps A c vs ad ce xs k n A2 c2 ms hcap2 hA2 w hp hm hf (by omega) hc hk hs he
    by_cases hz : okind vs ms 0 = okind vs xs k
    rotate_left
    · exact replaced_kind C ps A c vs ad ce xs k n A2 c2 ms hcap2 hA2 w hp hm hf (by omega) hc hk hs he hz
    have hms : 0 < ms.length := (scan_le _ _ _ (whole_end he)).1
    obtain ⟨⟨t1, n1⟩, hx0⟩ : ∃ x, ms[0]? = some x := ⟨_, List.getElem?_eq_getElem hms⟩
    obtain ⟨ad2, rfl, -⟩ := hm 0 _ hx0
    by_cases ht : t1 = t2
    · exact replaced_all C ps A c vs ad ce xs k n ad2 c2 ms hcap2 hA2 w hp hm hf (by omega) hc hk hs he hz t1 n1 t2 n2 hx0 hxk ht
    · exact replaced_tag C ps A c vs ad ce xs k n ad2 c2 ms hcap2 hA2 w hp hm hf (by omega) hc hk hs he hz t1 n1 t2 n2 hx0 hxk ht

end Go.Proofs.Yteknfglfbkknaaa.Kinds
