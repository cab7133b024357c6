/-
  Package machine, walked: what nodes do once the kids that they are owed have ended.
-/
import Derived.Test.YtodejloonfkkmaaGreatMachPEnter
import Derived.Laws.EntriesVeiled
set_option linter.unusedVariables false
namespace Go.Proofs.YtodejloonfkkmaaGreat.Mach
open Go.RowKit Mem _root_.Go.Proofs.YtodejloonfkkmaaGreat.Arena _root_.Go.Proofs.YtodejloonfkkmaaGreat.Kinds _root_.Go.Proofs.YtodejloonfkkmaaGreat.Path _root_.Go.Proofs.YtodejloonfkkmaaGreat.Cat _root_.Go.Proofs.YtodejloonfkkmaaGreat.Suite
attribute [local go_sem ↓] Go.wp_at_zero Go.wp_at_succ

section
variable {K : PK} {κ : Nat → Nat} {evv sv : Value} {Y : List ((Option Addr × Nat) × List Int)} {s : St} {S : List Fr} {W W' : World}
/-- What holds of a run when a node does what it does: it goes on, and no more was stored and entered than fuel was taken. -/
structure Live (K : PK) (s : St) (S : List Fr) : Prop where
  on : s.over = false
  sum : s.steps + s.fuel = K.F
  top : K.F ≤ 10000
  few : s.ev.length + S.length ≤ s.steps
theorem Live.hl (h : Live K s S) : S.length < 1000000 := by have := h.sum; have := h.top; have := h.few; omega
theorem Live.he (h : Live K s S) : s.ev.length < 1000000 := by have := h.sum; have := h.top; have := h.few; omega
theorem enter_any16 (h : PM K κ evv sv Y s S W) (hL : Live K s S) {k : Nat} (hk : IsNode K.p.xs k) : Calls Tryz.prog 34 #[.pointer (some ⟨K.g, 0, none⟩), .int .i64 k] W (Turn K κ W (enterC K.p.xs k (s, S))) := by
  have h1 := hL.sum
  have h2 := hL.few
  have h3 := hL.top
  unfold enterC
  simp only
  split
  · next h0 => exact p_enter_out h hL.on h0 hL.sum k
  · next h0 => exact p_enter_on h hL.on h0 hL.sum hL.top (by omega) hk
theorem Turn.resulted {κ' : Nat → Nat} {evv' sv' : Value} {Y' : List ((Option Addr × Nat) × List Int)} {s' : St} {S' : List Fr} (h : PM K κ' evv' sv' Y' s' S' W') (hw : Went κ κ' W W') (ho : s'.over = false) (v : Int) : Turn K κ W (s'.stop 0 v, S') (.returned (.func (.func 116) #[.int .i64 v] #[])) W' :=
  ⟨κ', evv', sv', Y', _, h.stop 0 v, hw, rfl, .inr ⟨by rw [stop_no ho], .inr ⟨by rw [stop_no ho], by rw [stop_no ho]⟩⟩⟩
/-- What came of a call, told of the world ahead of it. -/
theorem Turn.ends {κ' : Nat → Nat} {W1 W2 : World} {c : Cfg} {e : Ending} (h : Turn K κ' W1 c e W2) (hw : Went κ κ' W W1) : Turn K κ W c e W2 ∧ ∃ v, e = .returned v := ⟨h.then hw, by obtain ⟨_, _, _, _, v, -, -, h, -⟩ := h; exact ⟨v, h⟩⟩
set_option maxRecDepth 100000 in
set_option maxHeartbeats 2000000 in
theorem act_constant (h : PM K κ evv sv Y s S W) (hL : Live K s S) (t N : Int) (pos next owed : Nat) (x y : Int) (fa : FuncId) (ca : Array Value) : Calls Tryz.prog 54 #[.pointer (some ⟨K.g, 0, none⟩), .agg #[.int .i64 t, .int .i64 N, .int .i64 (pos : Nat), .int .i64 (next : Nat), .int .i64 (owed : Nat), .int .i64 x, .int .i64 y, .func (.func fa) #[] ca]] W (Turn K κ W (tellC N (s, S))) := by
  have hb1 := (Below.refl W.heap.size W).alloc (Nat.le_refl _) (.cells #[.int .i64 t, .int .i64 N, .int .i64 (pos : Nat), .int .i64 (next : Nat), .int .i64 (owed : Nat), .int .i64 x, .int .i64 y, .func (.func fa) #[] ca] 161)
  have bX := Blk.new W 161 #[.int .i64 t, .int .i64 N, .int .i64 (pos : Nat), .int .i64 (next : Nat), .int .i64 (owed : Nat), .int .i64 x, .int .i64 y, .func (.func fa) #[] ca]
  have x0 : (W.alloc (.cells #[.int .i64 t, .int .i64 N, .int .i64 (pos : Nat), .int .i64 (next : Nat), .int .i64 (owed : Nat), .int .i64 x, .int .i64 y, .func (.func fa) #[] ca] 161)).cell? ⟨W.heap.size, 0, none⟩ = some (.int .i64 t) := bX.cell 0
  have x1 : (W.alloc (.cells #[.int .i64 t, .int .i64 N, .int .i64 (pos : Nat), .int .i64 (next : Nat), .int .i64 (owed : Nat), .int .i64 x, .int .i64 y, .func (.func fa) #[] ca] 161)).cell? ⟨W.heap.size, 1, none⟩ = some (.int .i64 N) := bX.cell 1
  have x2 : (W.alloc (.cells #[.int .i64 t, .int .i64 N, .int .i64 (pos : Nat), .int .i64 (next : Nat), .int .i64 (owed : Nat), .int .i64 x, .int .i64 y, .func (.func fa) #[] ca] 161)).cell? ⟨W.heap.size, 2, none⟩ = some (.int .i64 pos) := bX.cell 2
  have x3 : (W.alloc (.cells #[.int .i64 t, .int .i64 N, .int .i64 (pos : Nat), .int .i64 (next : Nat), .int .i64 (owed : Nat), .int .i64 x, .int .i64 y, .func (.func fa) #[] ca] 161)).cell? ⟨W.heap.size, 3, none⟩ = some (.int .i64 next) := bX.cell 3
  have x4 : (W.alloc (.cells #[.int .i64 t, .int .i64 N, .int .i64 (pos : Nat), .int .i64 (next : Nat), .int .i64 (owed : Nat), .int .i64 x, .int .i64 y, .func (.func fa) #[] ca] 161)).cell? ⟨W.heap.size, 4, none⟩ = some (.int .i64 owed) := bX.cell 4
  have x5 : (W.alloc (.cells #[.int .i64 t, .int .i64 N, .int .i64 (pos : Nat), .int .i64 (next : Nat), .int .i64 (owed : Nat), .int .i64 x, .int .i64 y, .func (.func fa) #[] ca] 161)).cell? ⟨W.heap.size, 5, none⟩ = some (.int .i64 x) := bX.cell 5
  have x6 : (W.alloc (.cells #[.int .i64 t, .int .i64 N, .int .i64 (pos : Nat), .int .i64 (next : Nat), .int .i64 (owed : Nat), .int .i64 x, .int .i64 y, .func (.func fa) #[] ca] 161)).cell? ⟨W.heap.size, 6, none⟩ = some (.int .i64 y) := bX.cell 6
  have x7 : (W.alloc (.cells #[.int .i64 t, .int .i64 N, .int .i64 (pos : Nat), .int .i64 (next : Nat), .int .i64 (owed : Nat), .int .i64 x, .int .i64 y, .func (.func fa) #[] ca] 161)).cell? ⟨W.heap.size, 7, none⟩ = some (.func (.func fa) #[] ca) := bX.cell 7
  have h1 := h.below hb1
  have hw1 := (Went.refl κ W).below hb1
  have hl := hL.hl
  have ho := hL.on
  have HT := Lib.hid (tell_any h1 ho N hl)
  have HW := Lib.hid hw1
  clear h h1 hw1 hb1 bX hL ho hl
  go_enter Tryz.func54, Tryz.ntmps54
  go_wp2_with (first | (go_at_call 108; (with_reducible refine HT.out.mono ?_); rintro e w2 hT; obtain ⟨hTT, v, rfl⟩ := hT.ends HW.out; have HTT := Lib.hid hTT; clear hTT hT) | fail)
  go_ret
  exact HTT.out
set_option maxRecDepth 100000 in
set_option maxHeartbeats 2000000 in
theorem act_nothing (h : PM K κ evv sv Y s S W) (hL : Live K s S) (t N : Int) (pos next owed : Nat) (x y : Int) (fa : FuncId) (ca : Array Value) : Calls Tryz.prog 74 #[.pointer (some ⟨K.g, 0, none⟩), .agg #[.int .i64 t, .int .i64 N, .int .i64 (pos : Nat), .int .i64 (next : Nat), .int .i64 (owed : Nat), .int .i64 x, .int .i64 y, .func (.func fa) #[] ca]] W (Turn K κ W (tellC 0 (s, S))) := by
  have hb1 := (Below.refl W.heap.size W).alloc (Nat.le_refl _) (.cells #[.int .i64 t, .int .i64 N, .int .i64 (pos : Nat), .int .i64 (next : Nat), .int .i64 (owed : Nat), .int .i64 x, .int .i64 y, .func (.func fa) #[] ca] 161)
  have bX := Blk.new W 161 #[.int .i64 t, .int .i64 N, .int .i64 (pos : Nat), .int .i64 (next : Nat), .int .i64 (owed : Nat), .int .i64 x, .int .i64 y, .func (.func fa) #[] ca]
  have x0 : (W.alloc (.cells #[.int .i64 t, .int .i64 N, .int .i64 (pos : Nat), .int .i64 (next : Nat), .int .i64 (owed : Nat), .int .i64 x, .int .i64 y, .func (.func fa) #[] ca] 161)).cell? ⟨W.heap.size, 0, none⟩ = some (.int .i64 t) := bX.cell 0
  have x1 : (W.alloc (.cells #[.int .i64 t, .int .i64 N, .int .i64 (pos : Nat), .int .i64 (next : Nat), .int .i64 (owed : Nat), .int .i64 x, .int .i64 y, .func (.func fa) #[] ca] 161)).cell? ⟨W.heap.size, 1, none⟩ = some (.int .i64 N) := bX.cell 1
  have x2 : (W.alloc (.cells #[.int .i64 t, .int .i64 N, .int .i64 (pos : Nat), .int .i64 (next : Nat), .int .i64 (owed : Nat), .int .i64 x, .int .i64 y, .func (.func fa) #[] ca] 161)).cell? ⟨W.heap.size, 2, none⟩ = some (.int .i64 pos) := bX.cell 2
  have x3 : (W.alloc (.cells #[.int .i64 t, .int .i64 N, .int .i64 (pos : Nat), .int .i64 (next : Nat), .int .i64 (owed : Nat), .int .i64 x, .int .i64 y, .func (.func fa) #[] ca] 161)).cell? ⟨W.heap.size, 3, none⟩ = some (.int .i64 next) := bX.cell 3
  have x4 : (W.alloc (.cells #[.int .i64 t, .int .i64 N, .int .i64 (pos : Nat), .int .i64 (next : Nat), .int .i64 (owed : Nat), .int .i64 x, .int .i64 y, .func (.func fa) #[] ca] 161)).cell? ⟨W.heap.size, 4, none⟩ = some (.int .i64 owed) := bX.cell 4
  have x5 : (W.alloc (.cells #[.int .i64 t, .int .i64 N, .int .i64 (pos : Nat), .int .i64 (next : Nat), .int .i64 (owed : Nat), .int .i64 x, .int .i64 y, .func (.func fa) #[] ca] 161)).cell? ⟨W.heap.size, 5, none⟩ = some (.int .i64 x) := bX.cell 5
  have x6 : (W.alloc (.cells #[.int .i64 t, .int .i64 N, .int .i64 (pos : Nat), .int .i64 (next : Nat), .int .i64 (owed : Nat), .int .i64 x, .int .i64 y, .func (.func fa) #[] ca] 161)).cell? ⟨W.heap.size, 6, none⟩ = some (.int .i64 y) := bX.cell 6
  have x7 : (W.alloc (.cells #[.int .i64 t, .int .i64 N, .int .i64 (pos : Nat), .int .i64 (next : Nat), .int .i64 (owed : Nat), .int .i64 x, .int .i64 y, .func (.func fa) #[] ca] 161)).cell? ⟨W.heap.size, 7, none⟩ = some (.func (.func fa) #[] ca) := bX.cell 7
  have h1 := h.below hb1
  have hw1 := (Went.refl κ W).below hb1
  have hl := hL.hl
  have ho := hL.on
  have HT := Lib.hid (tell_any h1 ho 0 hl)
  have HW := Lib.hid hw1
  clear h h1 hw1 hb1 bX hL ho hl
  go_enter Tryz.func74, Tryz.ntmps74
  go_wp2_with (first | (go_at_call 108; (with_reducible refine HT.out.mono ?_); rintro e w2 hT; obtain ⟨hTT, v, rfl⟩ := hT.ends HW.out; have HTT := Lib.hid hTT; clear hTT hT) | fail)
  go_ret
  exact HTT.out
set_option maxRecDepth 100000 in
set_option maxHeartbeats 2000000 in
theorem act_giveBack (h : PM K κ evv sv Y s S W) (hL : Live K s S) (t N : Int) (pos next owed : Nat) (x y : Int) (fa : FuncId) (ca : Array Value) : Calls Tryz.prog 79 #[.pointer (some ⟨K.g, 0, none⟩), .agg #[.int .i64 t, .int .i64 N, .int .i64 (pos : Nat), .int .i64 (next : Nat), .int .i64 (owed : Nat), .int .i64 x, .int .i64 y, .func (.func fa) #[] ca]] W (Turn K κ W (s.stop 0 y, S)) := by
  have hb1 := (Below.refl W.heap.size W).alloc (Nat.le_refl _) (.cells #[.int .i64 t, .int .i64 N, .int .i64 (pos : Nat), .int .i64 (next : Nat), .int .i64 (owed : Nat), .int .i64 x, .int .i64 y, .func (.func fa) #[] ca] 161)
  have bX := Blk.new W 161 #[.int .i64 t, .int .i64 N, .int .i64 (pos : Nat), .int .i64 (next : Nat), .int .i64 (owed : Nat), .int .i64 x, .int .i64 y, .func (.func fa) #[] ca]
  have x0 : (W.alloc (.cells #[.int .i64 t, .int .i64 N, .int .i64 (pos : Nat), .int .i64 (next : Nat), .int .i64 (owed : Nat), .int .i64 x, .int .i64 y, .func (.func fa) #[] ca] 161)).cell? ⟨W.heap.size, 0, none⟩ = some (.int .i64 t) := bX.cell 0
  have x1 : (W.alloc (.cells #[.int .i64 t, .int .i64 N, .int .i64 (pos : Nat), .int .i64 (next : Nat), .int .i64 (owed : Nat), .int .i64 x, .int .i64 y, .func (.func fa) #[] ca] 161)).cell? ⟨W.heap.size, 1, none⟩ = some (.int .i64 N) := bX.cell 1
  have x2 : (W.alloc (.cells #[.int .i64 t, .int .i64 N, .int .i64 (pos : Nat), .int .i64 (next : Nat), .int .i64 (owed : Nat), .int .i64 x, .int .i64 y, .func (.func fa) #[] ca] 161)).cell? ⟨W.heap.size, 2, none⟩ = some (.int .i64 pos) := bX.cell 2
  have x3 : (W.alloc (.cells #[.int .i64 t, .int .i64 N, .int .i64 (pos : Nat), .int .i64 (next : Nat), .int .i64 (owed : Nat), .int .i64 x, .int .i64 y, .func (.func fa) #[] ca] 161)).cell? ⟨W.heap.size, 3, none⟩ = some (.int .i64 next) := bX.cell 3
  have x4 : (W.alloc (.cells #[.int .i64 t, .int .i64 N, .int .i64 (pos : Nat), .int .i64 (next : Nat), .int .i64 (owed : Nat), .int .i64 x, .int .i64 y, .func (.func fa) #[] ca] 161)).cell? ⟨W.heap.size, 4, none⟩ = some (.int .i64 owed) := bX.cell 4
  have x5 : (W.alloc (.cells #[.int .i64 t, .int .i64 N, .int .i64 (pos : Nat), .int .i64 (next : Nat), .int .i64 (owed : Nat), .int .i64 x, .int .i64 y, .func (.func fa) #[] ca] 161)).cell? ⟨W.heap.size, 5, none⟩ = some (.int .i64 x) := bX.cell 5
  have x6 : (W.alloc (.cells #[.int .i64 t, .int .i64 N, .int .i64 (pos : Nat), .int .i64 (next : Nat), .int .i64 (owed : Nat), .int .i64 x, .int .i64 y, .func (.func fa) #[] ca] 161)).cell? ⟨W.heap.size, 6, none⟩ = some (.int .i64 y) := bX.cell 6
  have x7 : (W.alloc (.cells #[.int .i64 t, .int .i64 N, .int .i64 (pos : Nat), .int .i64 (next : Nat), .int .i64 (owed : Nat), .int .i64 x, .int .i64 y, .func (.func fa) #[] ca] 161)).cell? ⟨W.heap.size, 7, none⟩ = some (.func (.func fa) #[] ca) := bX.cell 7
  have h1 := h.below hb1
  have hw1 := (Went.refl κ W).below hb1
  have hl := hL.hl
  have ho := hL.on
  have HT := Lib.hid (Turn.resulted h1 hw1 ho y)
  clear h h1 hw1 hb1 bX hL ho hl
  go_enter Tryz.func79, Tryz.ntmps79
  go_wp2_with fail
  go_ret
  exact HT.out
set_option maxRecDepth 100000 in
set_option maxHeartbeats 2000000 in
theorem act_again (h : PM K κ evv sv Y s S W) (hL : Live K s S) (t N : Int) (pos next owed : Nat) (x y : Int) (fa : FuncId) (ca : Array Value) (hk : IsNode K.p.xs pos) : Calls Tryz.prog 115 #[.pointer (some ⟨K.g, 0, none⟩), .agg #[.int .i64 t, .int .i64 N, .int .i64 (pos : Nat), .int .i64 (next : Nat), .int .i64 (owed : Nat), .int .i64 x, .int .i64 y, .func (.func fa) #[] ca]] W (Turn K κ W (enterC K.p.xs pos (s, S))) := by
  have hb1 := (Below.refl W.heap.size W).alloc (Nat.le_refl _) (.cells #[.int .i64 t, .int .i64 N, .int .i64 (pos : Nat), .int .i64 (next : Nat), .int .i64 (owed : Nat), .int .i64 x, .int .i64 y, .func (.func fa) #[] ca] 161)
  have bX := Blk.new W 161 #[.int .i64 t, .int .i64 N, .int .i64 (pos : Nat), .int .i64 (next : Nat), .int .i64 (owed : Nat), .int .i64 x, .int .i64 y, .func (.func fa) #[] ca]
  have x0 : (W.alloc (.cells #[.int .i64 t, .int .i64 N, .int .i64 (pos : Nat), .int .i64 (next : Nat), .int .i64 (owed : Nat), .int .i64 x, .int .i64 y, .func (.func fa) #[] ca] 161)).cell? ⟨W.heap.size, 0, none⟩ = some (.int .i64 t) := bX.cell 0
  have x1 : (W.alloc (.cells #[.int .i64 t, .int .i64 N, .int .i64 (pos : Nat), .int .i64 (next : Nat), .int .i64 (owed : Nat), .int .i64 x, .int .i64 y, .func (.func fa) #[] ca] 161)).cell? ⟨W.heap.size, 1, none⟩ = some (.int .i64 N) := bX.cell 1
  have x2 : (W.alloc (.cells #[.int .i64 t, .int .i64 N, .int .i64 (pos : Nat), .int .i64 (next : Nat), .int .i64 (owed : Nat), .int .i64 x, .int .i64 y, .func (.func fa) #[] ca] 161)).cell? ⟨W.heap.size, 2, none⟩ = some (.int .i64 pos) := bX.cell 2
  have x3 : (W.alloc (.cells #[.int .i64 t, .int .i64 N, .int .i64 (pos : Nat), .int .i64 (next : Nat), .int .i64 (owed : Nat), .int .i64 x, .int .i64 y, .func (.func fa) #[] ca] 161)).cell? ⟨W.heap.size, 3, none⟩ = some (.int .i64 next) := bX.cell 3
  have x4 : (W.alloc (.cells #[.int .i64 t, .int .i64 N, .int .i64 (pos : Nat), .int .i64 (next : Nat), .int .i64 (owed : Nat), .int .i64 x, .int .i64 y, .func (.func fa) #[] ca] 161)).cell? ⟨W.heap.size, 4, none⟩ = some (.int .i64 owed) := bX.cell 4
  have x5 : (W.alloc (.cells #[.int .i64 t, .int .i64 N, .int .i64 (pos : Nat), .int .i64 (next : Nat), .int .i64 (owed : Nat), .int .i64 x, .int .i64 y, .func (.func fa) #[] ca] 161)).cell? ⟨W.heap.size, 5, none⟩ = some (.int .i64 x) := bX.cell 5
  have x6 : (W.alloc (.cells #[.int .i64 t, .int .i64 N, .int .i64 (pos : Nat), .int .i64 (next : Nat), .int .i64 (owed : Nat), .int .i64 x, .int .i64 y, .func (.func fa) #[] ca] 161)).cell? ⟨W.heap.size, 6, none⟩ = some (.int .i64 y) := bX.cell 6
  have x7 : (W.alloc (.cells #[.int .i64 t, .int .i64 N, .int .i64 (pos : Nat), .int .i64 (next : Nat), .int .i64 (owed : Nat), .int .i64 x, .int .i64 y, .func (.func fa) #[] ca] 161)).cell? ⟨W.heap.size, 7, none⟩ = some (.func (.func fa) #[] ca) := bX.cell 7
  have h1 := h.below hb1
  have hw1 := (Went.refl κ W).below hb1
  have hl := hL.hl
  have ho := hL.on
  have HT := Lib.hid (enter_any16 h1 hL hk)
  have HW := Lib.hid hw1
  clear hk
  clear h h1 hw1 hb1 bX hL ho hl
  go_enter Tryz.func115, Tryz.ntmps115
  go_wp2_with (first | (go_at_call 34; (with_reducible refine HT.out.mono ?_); rintro e w2 hT; obtain ⟨hTT, v, rfl⟩ := hT.ends HW.out; have HTT := Lib.hid hTT; clear hTT hT) | fail)
  go_ret
  exact HTT.out
set_option maxRecDepth 100000 in
set_option maxHeartbeats 2000000 in
theorem act_joined (h : PM K κ evv sv Y s S W) (hL : Live K s S) (t N : Int) (pos next owed : Nat) (x y : Int) (fa : FuncId) (ca : Array Value) (b : Nat) (z : Int) (hbx : BoxIn W K.cst b 3 (.int .i64 z)) (hk : IsNode K.p.xs next) : Calls Tryz.prog 113 #[.pointer (some ⟨K.g, 0, none⟩), .agg #[.int .i64 t, .int .i64 N, .int .i64 (pos : Nat), .int .i64 (next : Nat), .int .i64 (owed : Nat), .int .i64 x, .int .i64 y, .func (.func fa) #[] ca], .pointer (some ⟨b, 0, none⟩)] W (Turn K κ W (if y = z then tellC z (s, S) else enterC K.p.xs next (s, S))) := by
  have hb1 := (Below.refl W.heap.size W).alloc (Nat.le_refl _) (.cells #[.int .i64 t, .int .i64 N, .int .i64 (pos : Nat), .int .i64 (next : Nat), .int .i64 (owed : Nat), .int .i64 x, .int .i64 y, .func (.func fa) #[] ca] 161)
  have bX := Blk.new W 161 #[.int .i64 t, .int .i64 N, .int .i64 (pos : Nat), .int .i64 (next : Nat), .int .i64 (owed : Nat), .int .i64 x, .int .i64 y, .func (.func fa) #[] ca]
  have x0 : (W.alloc (.cells #[.int .i64 t, .int .i64 N, .int .i64 (pos : Nat), .int .i64 (next : Nat), .int .i64 (owed : Nat), .int .i64 x, .int .i64 y, .func (.func fa) #[] ca] 161)).cell? ⟨W.heap.size, 0, none⟩ = some (.int .i64 t) := bX.cell 0
  have x1 : (W.alloc (.cells #[.int .i64 t, .int .i64 N, .int .i64 (pos : Nat), .int .i64 (next : Nat), .int .i64 (owed : Nat), .int .i64 x, .int .i64 y, .func (.func fa) #[] ca] 161)).cell? ⟨W.heap.size, 1, none⟩ = some (.int .i64 N) := bX.cell 1
  have x2 : (W.alloc (.cells #[.int .i64 t, .int .i64 N, .int .i64 (pos : Nat), .int .i64 (next : Nat), .int .i64 (owed : Nat), .int .i64 x, .int .i64 y, .func (.func fa) #[] ca] 161)).cell? ⟨W.heap.size, 2, none⟩ = some (.int .i64 pos) := bX.cell 2
  have x3 : (W.alloc (.cells #[.int .i64 t, .int .i64 N, .int .i64 (pos : Nat), .int .i64 (next : Nat), .int .i64 (owed : Nat), .int .i64 x, .int .i64 y, .func (.func fa) #[] ca] 161)).cell? ⟨W.heap.size, 3, none⟩ = some (.int .i64 next) := bX.cell 3
  have x4 : (W.alloc (.cells #[.int .i64 t, .int .i64 N, .int .i64 (pos : Nat), .int .i64 (next : Nat), .int .i64 (owed : Nat), .int .i64 x, .int .i64 y, .func (.func fa) #[] ca] 161)).cell? ⟨W.heap.size, 4, none⟩ = some (.int .i64 owed) := bX.cell 4
  have x5 : (W.alloc (.cells #[.int .i64 t, .int .i64 N, .int .i64 (pos : Nat), .int .i64 (next : Nat), .int .i64 (owed : Nat), .int .i64 x, .int .i64 y, .func (.func fa) #[] ca] 161)).cell? ⟨W.heap.size, 5, none⟩ = some (.int .i64 x) := bX.cell 5
  have x6 : (W.alloc (.cells #[.int .i64 t, .int .i64 N, .int .i64 (pos : Nat), .int .i64 (next : Nat), .int .i64 (owed : Nat), .int .i64 x, .int .i64 y, .func (.func fa) #[] ca] 161)).cell? ⟨W.heap.size, 6, none⟩ = some (.int .i64 y) := bX.cell 6
  have x7 : (W.alloc (.cells #[.int .i64 t, .int .i64 N, .int .i64 (pos : Nat), .int .i64 (next : Nat), .int .i64 (owed : Nat), .int .i64 x, .int .i64 y, .func (.func fa) #[] ca] 161)).cell? ⟨W.heap.size, 7, none⟩ = some (.func (.func fa) #[] ca) := bX.cell 7
  have h1 := h.below hb1
  have hw1 := (Went.refl κ W).below hb1
  have hl := hL.hl
  have ho := hL.on
  have y0 : (W.alloc (.cells #[.int .i64 t, .int .i64 N, .int .i64 (pos : Nat), .int .i64 (next : Nat), .int .i64 (owed : Nat), .int .i64 x, .int .i64 y, .func (.func fa) #[] ca] 161)).cell? ⟨b, 0, none⟩ = some (.int .i64 z) := (hbx.1.below hb1 hbx.1.lt).cell 0
  have HT := Lib.hid (tell_any h1 ho z hl)
  have HU := Lib.hid (enter_any16 h1 hL hk)
  have HW := Lib.hid hw1
  clear hk hbx
  clear h h1 hw1 hb1 bX hL ho hl
  go_enter Tryz.func113, Tryz.ntmps113
  by_cases hz : y = z
  · rw [if_pos hz]
    subst hz
    go_wp2_with (first | (go_at_call 108; (with_reducible refine HT.out.mono ?_); rintro e w2 hT; obtain ⟨hTT, v, rfl⟩ := hT.ends HW.out; have HTT := Lib.hid hTT; clear hTT hT) | fail)
    go_ret
    exact HTT.out
  · rw [if_neg hz]
    have hz2 : (y == z) = false := by simp; exact hz
    clear hz
    go_wp2_with (first | (go_at_call 34; (with_reducible refine HU.out.mono ?_); rintro e w2 hT; obtain ⟨hTT, v, rfl⟩ := hT.ends HW.out; have HTT := Lib.hid hTT; clear hTT hT) | fail)
    go_ret
    exact HTT.out
set_option maxRecDepth 100000 in
set_option maxHeartbeats 2000000 in
theorem act_reckoned (h : PM K κ evv sv Y s S W) (hL : Live K s S) (t N : Int) (pos next owed : Nat) (x y : Int) (fa : FuncId) (ca : Array Value) (b : Nat) (q : FuncId) (F : Int → Int → Int) (hbx : BoxIn W K.cst b 156 (.func (.func q) #[] #[])) (hF : Calls Tryz.prog q #[.int .i64 x, .int .i64 y] (W.alloc (.cells #[.int .i64 t, .int .i64 N, .int .i64 (pos : Nat), .int .i64 (next : Nat), .int .i64 (owed : Nat), .int .i64 x, .int .i64 y, .func (.func fa) #[] ca] 161)) fun e w' => e = .returned (.int .i64 (F x y)) ∧ w' = (W.alloc (.cells #[.int .i64 t, .int .i64 N, .int .i64 (pos : Nat), .int .i64 (next : Nat), .int .i64 (owed : Nat), .int .i64 x, .int .i64 y, .func (.func fa) #[] ca] 161))) (hq : ∀ w : World, (callFunc q #[.int .i64 x, .int .i64 y]).run Tryz.prog w = .ok (.enter q #[.int .i64 x, .int .i64 y]) w) : Calls Tryz.prog 110 #[.pointer (some ⟨K.g, 0, none⟩), .agg #[.int .i64 t, .int .i64 N, .int .i64 (pos : Nat), .int .i64 (next : Nat), .int .i64 (owed : Nat), .int .i64 x, .int .i64 y, .func (.func fa) #[] ca], .pointer (some ⟨b, 0, none⟩)] W (Turn K κ W (tellC (F x y) (s, S))) := by
  have hb1 := (Below.refl W.heap.size W).alloc (Nat.le_refl _) (.cells #[.int .i64 t, .int .i64 N, .int .i64 (pos : Nat), .int .i64 (next : Nat), .int .i64 (owed : Nat), .int .i64 x, .int .i64 y, .func (.func fa) #[] ca] 161)
  have bX := Blk.new W 161 #[.int .i64 t, .int .i64 N, .int .i64 (pos : Nat), .int .i64 (next : Nat), .int .i64 (owed : Nat), .int .i64 x, .int .i64 y, .func (.func fa) #[] ca]
  have x0 : (W.alloc (.cells #[.int .i64 t, .int .i64 N, .int .i64 (pos : Nat), .int .i64 (next : Nat), .int .i64 (owed : Nat), .int .i64 x, .int .i64 y, .func (.func fa) #[] ca] 161)).cell? ⟨W.heap.size, 0, none⟩ = some (.int .i64 t) := bX.cell 0
  have x1 : (W.alloc (.cells #[.int .i64 t, .int .i64 N, .int .i64 (pos : Nat), .int .i64 (next : Nat), .int .i64 (owed : Nat), .int .i64 x, .int .i64 y, .func (.func fa) #[] ca] 161)).cell? ⟨W.heap.size, 1, none⟩ = some (.int .i64 N) := bX.cell 1
  have x2 : (W.alloc (.cells #[.int .i64 t, .int .i64 N, .int .i64 (pos : Nat), .int .i64 (next : Nat), .int .i64 (owed : Nat), .int .i64 x, .int .i64 y, .func (.func fa) #[] ca] 161)).cell? ⟨W.heap.size, 2, none⟩ = some (.int .i64 pos) := bX.cell 2
  have x3 : (W.alloc (.cells #[.int .i64 t, .int .i64 N, .int .i64 (pos : Nat), .int .i64 (next : Nat), .int .i64 (owed : Nat), .int .i64 x, .int .i64 y, .func (.func fa) #[] ca] 161)).cell? ⟨W.heap.size, 3, none⟩ = some (.int .i64 next) := bX.cell 3
  have x4 : (W.alloc (.cells #[.int .i64 t, .int .i64 N, .int .i64 (pos : Nat), .int .i64 (next : Nat), .int .i64 (owed : Nat), .int .i64 x, .int .i64 y, .func (.func fa) #[] ca] 161)).cell? ⟨W.heap.size, 4, none⟩ = some (.int .i64 owed) := bX.cell 4
  have x5 : (W.alloc (.cells #[.int .i64 t, .int .i64 N, .int .i64 (pos : Nat), .int .i64 (next : Nat), .int .i64 (owed : Nat), .int .i64 x, .int .i64 y, .func (.func fa) #[] ca] 161)).cell? ⟨W.heap.size, 5, none⟩ = some (.int .i64 x) := bX.cell 5
  have x6 : (W.alloc (.cells #[.int .i64 t, .int .i64 N, .int .i64 (pos : Nat), .int .i64 (next : Nat), .int .i64 (owed : Nat), .int .i64 x, .int .i64 y, .func (.func fa) #[] ca] 161)).cell? ⟨W.heap.size, 6, none⟩ = some (.int .i64 y) := bX.cell 6
  have x7 : (W.alloc (.cells #[.int .i64 t, .int .i64 N, .int .i64 (pos : Nat), .int .i64 (next : Nat), .int .i64 (owed : Nat), .int .i64 x, .int .i64 y, .func (.func fa) #[] ca] 161)).cell? ⟨W.heap.size, 7, none⟩ = some (.func (.func fa) #[] ca) := bX.cell 7
  have h1 := h.below hb1
  have hw1 := (Went.refl κ W).below hb1
  have hl := hL.hl
  have ho := hL.on
  have hq1 := hq (W.alloc (.cells #[.int .i64 t, .int .i64 N, .int .i64 (pos : Nat), .int .i64 (next : Nat), .int .i64 (owed : Nat), .int .i64 x, .int .i64 y, .func (.func fa) #[] ca] 161))
  have HQ := Lib.hid hF
  have y0 : (W.alloc (.cells #[.int .i64 t, .int .i64 N, .int .i64 (pos : Nat), .int .i64 (next : Nat), .int .i64 (owed : Nat), .int .i64 x, .int .i64 y, .func (.func fa) #[] ca] 161)).cell? ⟨b, 0, none⟩ = some (.func (.func q) #[] #[]) := (hbx.1.below hb1 hbx.1.lt).cell 0
  have HT := Lib.hid (tell_any h1 ho (F x y) hl)
  have HW := Lib.hid hw1
  clear hF hq hbx
  clear h h1 hw1 hb1 bX hL ho hl
  go_enter Tryz.func110, Tryz.ntmps110
  go_wp2_with (first | (go_at_call 108; (with_reducible refine HT.out.mono ?_); rintro e w2 hT; obtain ⟨hTT, v, rfl⟩ := hT.ends HW.out; have HTT := Lib.hid hTT; clear hTT hT) | ((with_reducible refine HQ.out.mono ?_); rintro e w1 ⟨rfl, rfl⟩) | fail)
  go_ret
  exact HTT.out
set_option maxRecDepth 100000 in
set_option maxHeartbeats 2000000 in
theorem act_reckonedP (h : PM K κ evv sv Y s S W) (hL : Live K s S) (t N : Int) (pos next owed : Nat) (x y : Int) (fa : FuncId) (ca : Array Value) (b : Nat) (c : Nat) (q : FuncId) (F : Int → Int → Int) (hbx : BoxIn W K.cst b 156 (.func (.func q) #[] #[.pointer (some ⟨c, 0, none⟩)])) (hF : Calls Tryz.prog q #[.int .i64 x, .int .i64 y, .pointer (some ⟨c, 0, none⟩)] (W.alloc (.cells #[.int .i64 t, .int .i64 N, .int .i64 (pos : Nat), .int .i64 (next : Nat), .int .i64 (owed : Nat), .int .i64 x, .int .i64 y, .func (.func fa) #[] ca] 161)) fun e w' => e = .returned (.int .i64 (F x y)) ∧ w' = (W.alloc (.cells #[.int .i64 t, .int .i64 N, .int .i64 (pos : Nat), .int .i64 (next : Nat), .int .i64 (owed : Nat), .int .i64 x, .int .i64 y, .func (.func fa) #[] ca] 161))) (hq : ∀ w : World, (callFunc q #[.int .i64 x, .int .i64 y, .pointer (some ⟨c, 0, none⟩)]).run Tryz.prog w = .ok (.enter q #[.int .i64 x, .int .i64 y, .pointer (some ⟨c, 0, none⟩)]) w) : Calls Tryz.prog 110 #[.pointer (some ⟨K.g, 0, none⟩), .agg #[.int .i64 t, .int .i64 N, .int .i64 (pos : Nat), .int .i64 (next : Nat), .int .i64 (owed : Nat), .int .i64 x, .int .i64 y, .func (.func fa) #[] ca], .pointer (some ⟨b, 0, none⟩)] W (Turn K κ W (tellC (F x y) (s, S))) := by
  have hb1 := (Below.refl W.heap.size W).alloc (Nat.le_refl _) (.cells #[.int .i64 t, .int .i64 N, .int .i64 (pos : Nat), .int .i64 (next : Nat), .int .i64 (owed : Nat), .int .i64 x, .int .i64 y, .func (.func fa) #[] ca] 161)
  have bX := Blk.new W 161 #[.int .i64 t, .int .i64 N, .int .i64 (pos : Nat), .int .i64 (next : Nat), .int .i64 (owed : Nat), .int .i64 x, .int .i64 y, .func (.func fa) #[] ca]
  have x0 : (W.alloc (.cells #[.int .i64 t, .int .i64 N, .int .i64 (pos : Nat), .int .i64 (next : Nat), .int .i64 (owed : Nat), .int .i64 x, .int .i64 y, .func (.func fa) #[] ca] 161)).cell? ⟨W.heap.size, 0, none⟩ = some (.int .i64 t) := bX.cell 0
  have x1 : (W.alloc (.cells #[.int .i64 t, .int .i64 N, .int .i64 (pos : Nat), .int .i64 (next : Nat), .int .i64 (owed : Nat), .int .i64 x, .int .i64 y, .func (.func fa) #[] ca] 161)).cell? ⟨W.heap.size, 1, none⟩ = some (.int .i64 N) := bX.cell 1
  have x2 : (W.alloc (.cells #[.int .i64 t, .int .i64 N, .int .i64 (pos : Nat), .int .i64 (next : Nat), .int .i64 (owed : Nat), .int .i64 x, .int .i64 y, .func (.func fa) #[] ca] 161)).cell? ⟨W.heap.size, 2, none⟩ = some (.int .i64 pos) := bX.cell 2
  have x3 : (W.alloc (.cells #[.int .i64 t, .int .i64 N, .int .i64 (pos : Nat), .int .i64 (next : Nat), .int .i64 (owed : Nat), .int .i64 x, .int .i64 y, .func (.func fa) #[] ca] 161)).cell? ⟨W.heap.size, 3, none⟩ = some (.int .i64 next) := bX.cell 3
  have x4 : (W.alloc (.cells #[.int .i64 t, .int .i64 N, .int .i64 (pos : Nat), .int .i64 (next : Nat), .int .i64 (owed : Nat), .int .i64 x, .int .i64 y, .func (.func fa) #[] ca] 161)).cell? ⟨W.heap.size, 4, none⟩ = some (.int .i64 owed) := bX.cell 4
  have x5 : (W.alloc (.cells #[.int .i64 t, .int .i64 N, .int .i64 (pos : Nat), .int .i64 (next : Nat), .int .i64 (owed : Nat), .int .i64 x, .int .i64 y, .func (.func fa) #[] ca] 161)).cell? ⟨W.heap.size, 5, none⟩ = some (.int .i64 x) := bX.cell 5
  have x6 : (W.alloc (.cells #[.int .i64 t, .int .i64 N, .int .i64 (pos : Nat), .int .i64 (next : Nat), .int .i64 (owed : Nat), .int .i64 x, .int .i64 y, .func (.func fa) #[] ca] 161)).cell? ⟨W.heap.size, 6, none⟩ = some (.int .i64 y) := bX.cell 6
  have x7 : (W.alloc (.cells #[.int .i64 t, .int .i64 N, .int .i64 (pos : Nat), .int .i64 (next : Nat), .int .i64 (owed : Nat), .int .i64 x, .int .i64 y, .func (.func fa) #[] ca] 161)).cell? ⟨W.heap.size, 7, none⟩ = some (.func (.func fa) #[] ca) := bX.cell 7
  have h1 := h.below hb1
  have hw1 := (Went.refl κ W).below hb1
  have hl := hL.hl
  have ho := hL.on
  have hq1 := hq (W.alloc (.cells #[.int .i64 t, .int .i64 N, .int .i64 (pos : Nat), .int .i64 (next : Nat), .int .i64 (owed : Nat), .int .i64 x, .int .i64 y, .func (.func fa) #[] ca] 161))
  have HQ := Lib.hid hF
  have y0 : (W.alloc (.cells #[.int .i64 t, .int .i64 N, .int .i64 (pos : Nat), .int .i64 (next : Nat), .int .i64 (owed : Nat), .int .i64 x, .int .i64 y, .func (.func fa) #[] ca] 161)).cell? ⟨b, 0, none⟩ = some (.func (.func q) #[] #[.pointer (some ⟨c, 0, none⟩)]) := (hbx.1.below hb1 hbx.1.lt).cell 0
  have HT := Lib.hid (tell_any h1 ho (F x y) hl)
  have HW := Lib.hid hw1
  clear hF hq hbx
  clear h h1 hw1 hb1 bX hL ho hl
  go_enter Tryz.func110, Tryz.ntmps110
  go_wp2_with (first | (go_at_call 108; (with_reducible refine HT.out.mono ?_); rintro e w2 hT; obtain ⟨hTT, v, rfl⟩ := hT.ends HW.out; have HTT := Lib.hid hTT; clear hTT hT) | ((with_reducible refine HQ.out.mono ?_); rintro e w1 ⟨rfl, rfl⟩) | fail)
  go_ret
  exact HTT.out
end
end Go.Proofs.YtodejloonfkkmaaGreat.Mach
