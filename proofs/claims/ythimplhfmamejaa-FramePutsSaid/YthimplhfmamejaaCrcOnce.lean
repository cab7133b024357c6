/-
  The Go text of package crc, walked: a table, made when it is first asked (sync.Once, one goroutine).
-/
import Derived.Tactics
import Derived.Tactics2
import Derived.Defers
import Derived.Laws.Pointers
import Derived.Laws.LoneSync
import Derived.RegionTactic
import Derived.RegionCalls
import Derived.Test.YthimplhfmamejaaCrcFill
namespace Go.Proofs.Ythimplhfmamejaa.Crc
open Go.RowKit

theorem disable (w : World) : (callFunc 72 #[]).run Try.prog w = .ok (.value (.tuple #[])) w := run_call_mark0 Try.func72 (by kernel_rfl) (by kernel_rfl) (by kernel_rfl) .disable (by kernel_rfl) w
theorem enable (w : World) : (callFunc 74 #[]).run Try.prog w = .ok (.value (.tuple #[])) w := run_call_mark0 Try.func74 (by kernel_rfl) (by kernel_rfl) (by kernel_rfl) .enable (by kernel_rfl) w
theorem acquire (a : Addr) (w : World) : (callFunc 75 #[.pointer (some a)]).run Try.prog w = .ok (.value (.tuple #[])) w := run_call_marked Try.func75 (by kernel_rfl) (by kernel_rfl) (by kernel_rfl) .acquire (by kernel_rfl) a w
theorem releaseMerge (a : Addr) (w : World) : (callFunc 77 #[.pointer (some a)]).run Try.prog w = .ok (.value (.tuple #[])) w := run_call_marked Try.func77 (by kernel_rfl) (by kernel_rfl) (by kernel_rfl) .releaseMerge (by kernel_rfl) a w

/-- '(*sync/atomic.Bool).Store(true)', a deferred call. -/
theorem store_deferred (a : Addr) (x : Value) (u : FrameMode) (w : World) (hc : w.cell? a = some x) (hz : w.frozen? a = false) :
    CallsD Try.prog 67 #[.pointer (some a), .bool true] u w fun e u' w' => u' = u ∧ (e = .returned (.tuple #[]) ∧ w' = w.drew.setCell a (.int .u32 1)) := by
  have hc' : w.drew.cell? a = some x := by go_simp
  have hz' : w.drew.frozen? a = false := by go_simp
  have hst := run_call_store (P := Try.prog) Try.func70 (by kernel_rfl) (by kernel_rfl) (by kernel_rfl) (by kernel_rfl) (k := .u32) (y := 1) hc' hz'
  go_enter_d Try.func67, Try.ntmps67
  go_wp2
  go_region_calls
  all_goals (go_end0; exact ⟨rfl, rfl⟩)

set_option maxRecDepth 100000 in
/-- '(*sync.Mutex).Unlock', a deferred call, the lock held and nobody waiting. -/
theorem unlock_deferred (a : Addr) (u : FrameMode) (w : World) (hc : w.cell? a = some (.int .i32 1)) (hz : w.frozen? a = false) :
    CallsD Try.prog 66 #[.pointer (some a)] u w fun e u' w' => u' = u ∧ (e = .returned (.tuple #[]) ∧ w' = w.setCell a (.int .i32 0)) := by
  have hd := disable
  have he := enable
  have hr := releaseMerge
  have hadd := run_call_add (P := Try.prog) Try.func78 (by kernel_rfl) (by kernel_rfl) (by kernel_rfl) .i32 (by kernel_rfl) (y := -1) (s := 0) hc hz (by simp [go_sem]; rfl)
  have hcv := run_convert_to_unsafe (P := Try.prog) (src := 109) (dst := 113) Try.underlying109 Try.underlying113 (by kernel_rfl) hc
  go_enter_d Try.func66, Try.ntmps66
  go_wp2
  go_end0
  go_wp2
  go_end0
  exact ⟨rfl, rfl⟩

set_option maxRecDepth 100000 in
/-- '(*sync.Mutex).Lock', the lock free. -/
theorem lock_free (a : Addr) (w : World) (hc : w.cell? a = some (.int .i32 0)) (hz : w.frozen? a = false) :
    Calls Try.prog 65 #[.pointer (some a)] w fun e w' => e = .returned (.tuple #[]) ∧ w' = w.setCell a (.int .i32 1) := by
  have hd := disable
  have he := enable
  have ha := acquire
  have hcas := run_call_cas_hit (P := Try.prog) Try.func73 (by kernel_rfl) (by kernel_rfl) (by kernel_rfl) .i32 (by kernel_rfl) (y := 1) hc hz
  have hc' : (w.setCell a (.int .i32 1)).cell? a = some (.int .i32 1) := World.cell?_setCell_same w a _ hc
  have hcv := run_convert_to_unsafe (P := Try.prog) (src := 109) (dst := 113) Try.underlying109 Try.underlying113 (by kernel_rfl) hc'
  go_enter Try.func65, Try.ntmps65
  go_wp2
  first | go_end0 | (simp only [Exit.inBlock, Exit.then]; refine bodyPost_ret (results_none rfl _ _ _) rfl ?_) | refine bodyPost_ret (results_none rfl _ _ _) rfl ?_
  go_wp2
  go_end0
  exact ⟨rfl, rfl⟩

/-- A table that was not asked yet. -/
structure Fresh (w : World) (g : Nat) : Prop where
  done : w.cell? ⟨g, 0, none⟩ = some (.int .u32 0)
  lock : w.cell? ⟨g, 1, none⟩ = some (.int .i32 0)
  steps : Filled w g 0
  froz : ∀ j, w.frozen? ⟨g, j, none⟩ = false
/-- A table that was. -/
structure Made (w : World) (g : Nat) : Prop where
  done : w.cell? ⟨g, 0, none⟩ = some (.int .u32 1)
  steps : Filled w g 256

def SlowEnds (g : Nat) (w : World) (e : Ending) (w' : World) : Prop := e = .returned (.tuple #[]) ∧ Only g w w' ∧ Made w' g

theorem Filled.setOther {w : World} {g n j : Nat} (h : Filled w g n) (hj : j < 3) (v : Value) : Filled (w.setCell ⟨g, j, none⟩ v) g n := by
  intro i hi
  obtain ⟨x, hx, hv⟩ := h i hi
  exact ⟨x, (World.cell?_setCell_other _ _ _ _ (fun h => by have := congrArg Addr.off h; simp at this; omega)).trans hx, hv⟩

set_option maxRecDepth 100000 in
set_option maxHeartbeats 1600000 in
theorem slow_any (g : Nat) (w : World) (hF : Fresh w g) :
    Calls Try.prog 62 #[.pointer (some ⟨g, 0, none⟩), .func (.func 59) #[.pointer (some ⟨g, 0, none⟩)] #[]] w (SlowEnds g w) := by
  obtain ⟨h0, h1, hs, hz⟩ := hF
  have hl := run_call_load (P := Try.prog) Try.func64 (by kernel_rfl) (by kernel_rfl) (by kernel_rfl) .u32 (by kernel_rfl) (w := w.setCell ⟨g, 1, none⟩ (.int .i32 1)) (a := ⟨g, 0, none⟩) (x := 0) ((World.cell?_setCell_other _ _ _ _ (by simp)).trans h0)
  have hnot : ∀ (x : Bool) (w : World), (Op.unary .not (.bool x)).run Try.prog w = .ok (.bool (!x)) w := fun _ _ => rfl
  have hfr := Filled.setOther hs (show 1 < 3 by omega) (.int .i32 1)
  have hf0 := hz 0
  have hf1 := hz 1
  have HZ := Lib.hid hz
  clear hz
  go_enter_defers Try.func62, Try.ntmps62
  go_wp2_with (first | (go_at_call 65; refine (lock_free ⟨g, 1, none⟩ _ h1 hf1).mono ?_; rintro e w' ⟨rfl, rfl⟩) | (go_at_call 61; go_in))
  refine (fill_any g _ hfr (fun j => by simp [HZ.out])).mono ?_
  intro e w2 hq
  obtain ⟨rfl, ho, hf, hj⟩ := hq
  have hd2 : w2.cell? ⟨g, 0, none⟩ = some (.int .u32 0) := (hj 0 (by omega)).trans ((World.cell?_setCell_other _ _ _ _ (by simp)).trans h0)
  have hl2 : w2.cell? ⟨g, 1, none⟩ = some (.int .i32 1) := (hj 1 (by omega)).trans (World.cell?_setCell_same _ _ _ h1)
  have hz2 : ∀ j, w2.frozen? ⟨g, j, none⟩ = false := fun j => (ho.froz j).trans (by simp [HZ.out])
  have hs2 : w2.cell? ⟨g, 0, none⟩ = some (.int .u32 0) ∧ Filled w2 g 256 := ⟨hd2, hf⟩
  have H2 := Lib.hid hs2
  have L2 := Lib.hid hl2
  have Z2 := Lib.hid hz2
  clear hd2 hl2 hz2 hs2 hj hl hnot h0 h1 hf0 hf1 hfr
  go_wp2
  -- the door: two deferred calls, the last laid first
  refine leaves_cons (f := 67) (args := #[.pointer (some ⟨g, 0, none⟩), .bool true]) (by simp) (by simp [go_sem]) ?_
  refine (store_deferred ⟨g, 0, none⟩ (.int .u32 0) .returning _ H2.out.1 (Z2.out 0)).mono ?_
  rintro e u' w'' ⟨rfl, rfl, rfl⟩
  refine leaves_cons (f := 66) (args := #[.pointer (some ⟨g, 1, none⟩)]) (by simp [settle]) (by simp [go_sem]) ?_
  refine (unlock_deferred ⟨g, 1, none⟩ _ _ ((World.cell?_setCell_other w2.drew ⟨g, 0, none⟩ ⟨g, 1, none⟩ (.int .u32 1) (by simp)).trans L2.out) ((World.frozen?_setCell w2.drew ⟨g, 0, none⟩ ⟨g, 1, none⟩ (.int .u32 1)).trans (Z2.out 1))).mono ?_
  rintro e u' w'' ⟨rfl, rfl, rfl⟩
  refine ⟨_, results_none rfl _ _ _, rfl, ?_, ?_, ?_⟩
  · exact (((((Only.refl _ _).setCell _ _).trans ho).drew).setCell _ _).setCell _ _
  · exact (World.cell?_setCell_other _ ⟨g, 1, none⟩ ⟨g, 0, none⟩ _ (by simp)).trans (World.cell?_setCell_same _ _ _ (by exact H2.out.1))
  · exact Filled.setOther (Filled.setOther (w := w2.drew) H2.out.2 (by omega) _) (by omega) _

theorem do_first (g : Nat) (w : World) (hF : Fresh w g) :
    Calls Try.prog 58 #[.pointer (some ⟨g, 0, none⟩), .func (.func 59) #[.pointer (some ⟨g, 0, none⟩)] #[]] w (SlowEnds g w) := by
  have hl := run_call_load (P := Try.prog) Try.func64 (by kernel_rfl) (by kernel_rfl) (by kernel_rfl) .u32 (by kernel_rfl) hF.done
  have hnot : ∀ (x : Bool) (w : World), (Op.unary .not (.bool x)).run Try.prog w = .ok (.bool (!x)) w := fun _ _ => rfl
  go_enter Try.func58, Try.ntmps58
  go_wp2_with (first | (go_at_call 62; refine (slow_any g _ hF).mono ?_; intro e w' hq; obtain ⟨rfl, ho, hm⟩ := hq) | (go_at_call 61; go_in))
  go_end0
  exact ⟨rfl, ho, hm⟩

theorem do_done (g : Nat) (fv : Value) (w : World) (h0 : w.cell? ⟨g, 0, none⟩ = some (.int .u32 1)) :
    Calls Try.prog 58 #[.pointer (some ⟨g, 0, none⟩), fv] w fun e w' => e = .returned (.tuple #[]) ∧ w = w' := by
  have hl := run_call_load (P := Try.prog) Try.func64 (by kernel_rfl) (by kernel_rfl) (by kernel_rfl) .u32 (by kernel_rfl) h0
  have hnot : ∀ (x : Bool) (w : World), (Op.unary .not (.bool x)).run Try.prog w = .ok (.bool (!x)) w := fun _ _ => rfl
  go_enter Try.func58, Try.ntmps58
  go_wp2
  go_end0
  exact ⟨rfl, rfl⟩

/-- A table, asked or not. -/
def Tabl (w : World) (g : Nat) : Prop := Fresh w g ∨ Made w g

def NextEnds (g c b : Nat) (w : World) (e : Ending) (w' : World) : Prop := e = .returned (.int .u32 (next c b : Nat)) ∧ Only g w w' ∧ Made w' g

theorem look_byte (c b : Nat) (hb : b < 256) : bits .xor .u8 ((c : Int) % 256) (b : Int) = ((c % 256 ^^^ b : Nat) : Int) := u8_xor_nat (c % 256) b (by omega) hb
theorem look_tab (c b : Nat) (hc : c < 4294967296) (hb : b < 256) : bits .xor .u32 ((tab (c % 256 ^^^ b) : Nat) : Int) ((c : Int) / 256) = ((next c b : Nat) : Int) := by
  have hlt := xor_byte (show c % 256 < 256 by omega) hb
  rw [next_tab c b]
  exact u32_xor_nat (tab (c % 256 ^^^ b)) (c / 256) (tab_lt (by omega)) (by omega)

set_option maxRecDepth 100000 in
set_option maxHeartbeats 1000000 in
theorem Next_any (g c b : Nat) (hc : c < 4294967296) (hb : b < 256) (w : World) (hT : Tabl w g) :
    Calls Try.prog 56 #[.pointer (some ⟨g, 0, none⟩), .int .u32 (c : Int), .int .u8 (b : Int)] w (NextEnds g c b w) := by
  have hmf : ∀ (fn : Fn) (first cap : Array Value) (w : World), (Instr.makeFunc fn first cap).run Try.prog w = .ok (.func fn first cap) w := fun _ _ _ _ => rfl
  have hx := look_byte c b hb
  have ht := look_tab c b hc hb
  have hlt := xor_byte (show c % 256 < 256 by omega) hb
  generalize c % 256 ^^^ b = x at hx ht hlt
  have HT := Lib.hid ht
  clear ht
  rcases hT with hF | hM
  · go_enter Try.func56, Try.ntmps56
    go_wp2_with (go_at_call 58; refine (do_first g _ hF).mono ?_; intro e w' hq; obtain ⟨rfl, ho, hm⟩ := hq; obtain ⟨v, hv, he⟩ := hm.steps x hlt; obtain rfl := he hlt)
    go_ret
    exact ⟨ret_u32 HT.out, ho, hm⟩
  · obtain ⟨v, hv, he⟩ := hM.steps x hlt
    obtain rfl := he hlt
    go_enter Try.func56, Try.ntmps56
    go_wp2_with (go_at_call 58; refine (do_done g _ _ hM.done).mono ?_; rintro e w' ⟨rfl, rfl⟩)
    go_ret
    exact ⟨ret_u32 HT.out, Only.refl _ _, hM⟩

end Go.Proofs.Ythimplhfmamejaa.Crc
