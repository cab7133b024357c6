/-
  Package wire: the reader, walked.
-/
import Derived.Test.YthimplhfmamejaaWireOut
namespace Go.Proofs.Ythimplhfmamejaa.Wire
open Go.RowKit Leb Mem

/-- A reader in memory: its bytes, its place, what is wrong. -/
def Rd (w : World) (a : Nat) (s : ByteArray) (p er : Int) : Prop := Blk w a 56 #[.string s, .int .i64 p, .int .i64 er]
/-- What was wrong first. -/
def fst0 (p q : Int) : Int := if p = 0 then q else p
theorem fst0_0 (q : Int) : fst0 0 q = q := if_pos rfl
theorem fst0_n {p : Int} (h : p ≠ 0) (q : Int) : fst0 p q = p := if_neg h

/-- x, or z if something is wrong. -/
def sel (p q : Int) (x z : Value) : Value := if fst0 p q = 0 then x else z
theorem sel_go {p q : Int} (h : fst0 p q = 0) (x z : Value) : sel p q x z = x := if_pos h
theorem sel_no {p q : Int} (h : fst0 p q ≠ 0) (x z : Value) : sel p q x z = z := if_neg h

/-- What reading comes to: x, or z if something is wrong. -/
def RdEnds (a : Nat) (s : ByteArray) (p er0 : Int) (x z : Value) (to er : Int) (w : World) (e : Ending) (w' : World) : Prop :=
  e = .returned (sel er0 er x z) ∧ Rd w' a s (if fst0 er0 er = 0 then to else p) (fst0 er0 er) ∧ Kept (· = a) w w'

section
variable {a : Nat} {s : ByteArray} {p er0 to er : Int} {x z : Value} {w w' : World} {e : Ending}
theorem RdEnds.good (h : RdEnds a s p 0 x z to 0 w e w') : e = .returned x ∧ Rd w' a s to 0 ∧ Kept (· = a) w w' := by
  unfold RdEnds at h; rw [fst0_0, if_pos rfl, sel_go (fst0_0 0)] at h; exact h
theorem RdEnds.bad (h : RdEnds a s p 0 x z to er w e w') (he : er ≠ 0) : e = .returned z ∧ Rd w' a s p er ∧ Kept (· = a) w w' := by
  unfold RdEnds at h; rw [sel_no (by rw [fst0_0]; exact he), fst0_0, if_neg he] at h; exact h
theorem RdEnds.was (h : RdEnds a s p er0 x z to er w e w') (he : er0 ≠ 0) : e = .returned z ∧ Rd w' a s p er0 ∧ Kept (· = a) w w' := by
  unfold RdEnds at h; rw [sel_no (by rw [fst0_n he]; exact he), fst0_n he, if_neg he] at h; exact h
theorem RdEnds.mk_good {k : World} (hr : Rd w' a s to 0) (hk : Kept (· = a) k w') (h : fst0 er0 er = 0) : RdEnds a s p er0 x z to er k (.returned x) w' := by
  unfold RdEnds; rw [sel_go h, h, if_pos rfl]; exact ⟨rfl, hr, hk⟩
theorem RdEnds.mk_bad {k : World} {q : Int} (hr : Rd w' a s p q) (hk : Kept (· = a) k w') (h : fst0 er0 er = q) (hq : q ≠ 0) : RdEnds a s p er0 x z to er k (.returned z) w' := by
  unfold RdEnds; rw [sel_no (by rw [h]; exact hq), h, if_neg hq]; exact ⟨rfl, hr, hk⟩
theorem RdEnds.pre {w0 : World} (h : RdEnds a s p er0 x z to er w e w') (hb : Below w0.heap.size w0 w) : RdEnds a s p er0 x z to er w0 e w' :=
  ⟨h.1, h.2.1, (Kept.of_below hb (Nat.le_refl _)).trans h.2.2⟩
end

theorem Of_any (s : ByteArray) (w : World) : Calls Try.prog 27 #[.string s] w fun e w' => e = .returned (.pointer (some ⟨w.heap.size, 0, none⟩)) ∧ Rd w' w.heap.size s 0 0 ∧ Below w.heap.size w w' := by
  go_enter Try.func27, Try.ntmps27
  go_wp2
  go_ret
  exact ⟨rfl, Blk.new _ _ _, (Below.refl _ _).alloc (Nat.le_refl _) _⟩

theorem keep_any (a : Nat) (s : ByteArray) (p er0 to er : Int) (w : World) (h : Rd w a s p er0) :
    Calls Try.prog 50 #[.pointer (some ⟨a, 0, none⟩), .int .i64 to, .int .i64 er] w (RdEnds a s p er0 (.bool true) (.bool false) to er w) := by
  obtain ⟨hc0, hc1, hc2⟩ := h.three
  have hf := h.frozen
  by_cases h0 : er0 = 0
  · subst h0
    by_cases h1 : er = 0
    · subst h1
      have hr := h.set 2 (.int .i64 0) |>.set 1 (.int .i64 to)
      go_enter Try.func50, Try.ntmps50
      go_wp2
      go_ret
      exact RdEnds.mk_good hr (((Kept.refl (· = a) w).setCell (p := ⟨a, 2, none⟩) (.inl rfl) _).setCell (p := ⟨a, 1, none⟩) (.inl rfl) _) (fst0_0 _)
    · have he' : (er == 0) = false := by simpa using h1
      have he2 : (er != 0) = true := by simpa using h1
      have hr := h.set 2 (.int .i64 er)
      have H1 := Lib.hid h1
      clear h1
      go_enter Try.func50, Try.ntmps50
      go_wp2
      go_ret
      exact RdEnds.mk_bad hr ((Kept.refl (· = a) w).setCell (p := ⟨a, 2, none⟩) (.inl rfl) _) (fst0_0 _) H1.out
  · have he' : (er0 == 0) = false := by simpa using h0
    have he2 : (er0 != 0) = true := by simpa using h0
    have H1 := Lib.hid h0
    clear h0
    go_enter Try.func50, Try.ntmps50
    go_wp2
    go_ret
    exact RdEnds.mk_bad h (Kept.refl _ _) (fst0_n H1.out _) H1.out

theorem found_u8_any (a : Nat) (s : ByteArray) (p er0 to er : Int) (x : Int) (w : World) (h : Rd w a s p er0) :
    Calls Try.prog 49 #[.int .u8 x, .int .i64 to, .int .i64 er, .func (.func 50) #[.pointer (some ⟨a, 0, none⟩)] #[]] w (RdEnds a s p er0 (.int .u8 x) (.int .u8 0) to er w) := by
  have HK := Lib.hid (keep_any a s p er0 to er w h)
  by_cases h0 : fst0 er0 er = 0
  · have H0 := Lib.hid h0
    clear h0
    go_enter Try.func49, Try.ntmps49
    go_wp2_with (go_at_call 50; refine (HK.out).mono ?_; rintro e w1 ⟨rfl, hr, hk⟩; rw [sel_go H0.out]; rw [if_pos H0.out] at hr)
    go_ret
    exact RdEnds.mk_good (by rw [H0.out] at hr; exact hr) hk H0.out
  · have H0 := Lib.hid h0
    clear h0
    go_enter Try.func49, Try.ntmps49
    go_wp2_with (go_at_call 50; refine (HK.out).mono ?_; rintro e w1 ⟨rfl, hr, hk⟩; rw [sel_no H0.out]; rw [if_neg H0.out] at hr)
    go_ret
    exact RdEnds.mk_bad hr hk rfl H0.out

theorem found_i64_any (a : Nat) (s : ByteArray) (p er0 to er : Int) (x : Int) (w : World) (h : Rd w a s p er0) :
    Calls Try.prog 54 #[.int .i64 x, .int .i64 to, .int .i64 er, .func (.func 50) #[.pointer (some ⟨a, 0, none⟩)] #[]] w (RdEnds a s p er0 (.int .i64 x) (.int .i64 0) to er w) := by
  have HK := Lib.hid (keep_any a s p er0 to er w h)
  by_cases h0 : fst0 er0 er = 0
  · have H0 := Lib.hid h0
    clear h0
    go_enter Try.func54, Try.ntmps54
    go_wp2_with (go_at_call 50; refine (HK.out).mono ?_; rintro e w1 ⟨rfl, hr, hk⟩; rw [sel_go H0.out]; rw [if_pos H0.out] at hr)
    go_ret
    exact RdEnds.mk_good (by rw [H0.out] at hr; exact hr) hk H0.out
  · have H0 := Lib.hid h0
    clear h0
    go_enter Try.func54, Try.ntmps54
    go_wp2_with (go_at_call 50; refine (HK.out).mono ?_; rintro e w1 ⟨rfl, hr, hk⟩; rw [sel_no H0.out]; rw [if_neg H0.out] at hr)
    go_ret
    exact RdEnds.mk_bad hr hk rfl H0.out

theorem found_str_any (a : Nat) (s : ByteArray) (p er0 to er : Int) (x : ByteArray) (w : World) (h : Rd w a s p er0) :
    Calls Try.prog 52 #[.string x, .int .i64 to, .int .i64 er, .func (.func 50) #[.pointer (some ⟨a, 0, none⟩)] #[]] w (RdEnds a s p er0 (.string x) (.string ⟨#[]⟩) to er w) := by
  have HK := Lib.hid (keep_any a s p er0 to er w h)
  by_cases h0 : fst0 er0 er = 0
  · have H0 := Lib.hid h0
    clear h0
    go_enter Try.func52, Try.ntmps52
    go_wp2_with (go_at_call 50; refine (HK.out).mono ?_; rintro e w1 ⟨rfl, hr, hk⟩; rw [sel_go H0.out]; rw [if_pos H0.out] at hr)
    go_ret
    exact RdEnds.mk_good (by rw [H0.out] at hr; exact hr) hk H0.out
  · have H0 := Lib.hid h0
    clear h0
    go_enter Try.func52, Try.ntmps52
    go_wp2_with (go_at_call 50; refine (HK.out).mono ?_; rintro e w1 ⟨rfl, hr, hk⟩; rw [sel_no H0.out]; rw [if_neg H0.out] at hr)
    go_ret
    exact RdEnds.mk_bad hr hk rfl H0.out

end Go.Proofs.Ythimplhfmamejaa.Wire
