/-
  Package frame: a row of closures, asked one by one till one tells an error.
-/
import Derived.Test.YthimplhfmamejaaWireRead
namespace Go.Proofs.Ythimplhfmamejaa.Frame
open Go.RowKit Leb Mem

theorem unless_any (b : Bool) (x : Int) (w : World) : Calls Try.prog 19 #[.bool b, .int .i64 x] w fun e w' => e = .returned (.int .i64 (if b then 0 else x)) ∧ w' = w := by
  cases b
  all_goals
    go_enter Try.func19, Try.ntmps19
    go_wp2
    go_ret
    exact ⟨rfl, rfl⟩

/-- Closures in a row, asked one by one: each meets what the ones ahead of it left. -/
theorem first_any (fs : List (FuncId × Array Value)) (g c : Nat) (J : Nat → World → Prop) (E : Int → World → Prop)
    (hrow : ∀ i f cs, fs[i]? = some (f, cs) → ∀ w, J i w → w.cell? ⟨g, i, none⟩ = some (.func (.func f) #[] cs))
    (hask : ∀ i f cs, fs[i]? = some (f, cs) → ∀ w, J i w → Calls Try.prog f cs w fun e w' => ∃ er, e = .returned (.int .i64 er) ∧ ((er = 0 ∧ J (i + 1) w') ∨ (er ≠ 0 ∧ E er w')))
    (hent : ∀ (i : Nat) f cs, fs[i]? = some (f, cs) → ∀ w, (callFunc f cs).run Try.prog w = .ok (.enter f cs) w)
    (hn : fs.length < 1000) (w : World) (h0 : J 0 w) :
    Calls Try.prog 17 #[.slice (some ⟨g, 0, none⟩) fs.length c] w fun e w' => ∃ er, e = .returned (.int .i64 er) ∧ ((er = 0 ∧ J fs.length w') ∨ (er ≠ 0 ∧ E er w')) := by
  go_enter Try.func17, Try.ntmps17
  go_wp2
  have HR := Lib.hid hrow
  have HK := Lib.hid hask
  have HE := Lib.hid hent
  clear hrow hask hent
  go_loopw [8] (fun i wr => ∃ k : Nat, k ≤ fs.length ∧ i = .int .i64 k ∧ J k wr) (fun i _ => fs.length - (intOf i).toNat)
  case atStart => exact ⟨0, by omega, rfl, h0⟩
  case round =>
    obtain ⟨k, hk, rfl, hJ⟩ := hrel
    by_cases hlt : k < fs.length
    · obtain ⟨⟨f, cs⟩, hf⟩ : ∃ x, fs[k]? = some x := ⟨_, List.getElem?_eq_getElem hlt⟩
      have hc := HR.out k f cs hf wr hJ
      have hcall := Lib.hid (HK.out k f cs hf wr hJ)
      have hent := HE.out k f cs hf
      clear hf
      go_wp2_with ((refine hcall.out.mono ?_); (rintro e w' ⟨er, rfl, (⟨rfl, hJ'⟩ | ⟨hne, hE⟩)⟩))
      · go_wp2
        go_roundw
        case rel => exact ⟨k + 1, by omega, by go_num, hJ'⟩
        case measure => simp [intOf]; omega
      · have hb : (er != 0) = true := by simpa using hne
        have HN := Lib.hid hne
        clear hne
        go_wp2
        go_ret
        exact ⟨er, rfl, .inr ⟨HN.out, hE⟩⟩
    · have hkk : k = fs.length := by omega
      have hlt' : decide ((k : Int) < (fs.length : Int)) = false := decide_eq_false (by omega)
      go_wp2
      go_ret
      exact ⟨0, rfl, .inl ⟨rfl, hkk ▸ hJ⟩⟩

end Go.Proofs.Ythimplhfmamejaa.Frame
