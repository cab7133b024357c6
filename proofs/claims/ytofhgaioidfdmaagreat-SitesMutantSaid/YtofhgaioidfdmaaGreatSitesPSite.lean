/-
  Package sites, walked: a node's path, found once (sync.Once, one goroutine), each time in a list of its own.
-/
import Derived.Test.YtofhgaioidfdmaaGreatSyncOnce
import Derived.Test.YtofhgaioidfdmaaGreatSitesRefB
import Derived.Test.YtofhgaioidfdmaaGreatPathH
import Derived.Test.YtofhgaioidfdmaaGreatDeltaP
set_option linter.unusedVariables false
namespace Go.Proofs.YtofhgaioidfdmaaGreat.Sites
open Go.RowKit Mem _root_.Go.Proofs.YtofhgaioidfdmaaGreat.Arena _root_.Go.Proofs.YtofhgaioidfdmaaGreat.Delta _root_.Go.Proofs.YtofhgaioidfdmaaGreat.Path _root_.Go.Proofs.YtofhgaioidfdmaaGreat.Cat _root_.Go.Proofs.YtofhgaioidfdmaaGreat.OnceP

/-- A site's cells: the body, the node, the once (done, lock, waiting), what was found. -/
def scells (A : Option Addr) (n c : Nat) (a d l : Int) (kept : Value) : Array Value := #[.slice A n c, .int .i64 a, .int .u32 d, .int .i32 l, .int .u32 0, kept]
/-- A row of numbers that is newer than a place in memory. -/
def NewRow (w : World) (B : Nat) (A : Option Addr) (c : Nat) (p : List Int) : Prop := p.length ≤ c ∧ (A = none → c = 0) ∧ IRow w w.heap.size A p ∧ ∀ ad, A = some ad → B ≤ ad.block
theorem NewRow.kept {S : Nat → Prop} {w w' : World} {B : Nat} {A : Option Addr} {c : Nat} {p : List Int} (h : NewRow w B A c p) (k : Kept S w w') (hs : ∀ i, B ≤ i → ¬ S i) : NewRow w' B A c p :=
  ⟨h.1, h.2.1, IRow.kept h.2.2.1 k (fun ad e => hs _ (h.2.2.2 ad e)), h.2.2.2⟩

set_option maxRecDepth 100000 in
set_option maxHeartbeats 1000000 in
theorem find_any (g : Nat) (A : Option Addr) (c : Nat) (xs : List Nd) (a : Nat) (d l : Int) (w : World) (hw : Whole xs) (ha : a < xs.length) (hl : xs.length ≤ 1000000)
    (hb : Blk w g 98 (scells A xs.length c a d l (.slice none 0 0))) (hx : Nodes w g A xs) :
    Calls Tryz.prog 93 #[.pointer (some ⟨g, 0, none⟩)] w fun e w' => e = .returned (.tuple #[]) ∧ Kept (· = g) w w' ∧ ∃ KA kc, Blk w' g 98 (scells A xs.length c a d l (.slice KA (ppath xs a).length kc)) ∧ NewRow w' w.heap.size KA kc (ppath xs a) := by
  have hlt := hb.lt
  have c0 := hb.cell 0
  have c1 := hb.cell 1
  have hx' : Nodes w w.heap.size A xs := fun i x h => by obtain ⟨ad, e, h1, h2⟩ := hx i x h; exact ⟨ad, e, by omega, h2⟩
  have HO := Lib.hid (fun W (h : Below w.heap.size w W) => (Path.Of_anyF A c xs a W (hx'.at h) hl).mono fun e w' q => q.ok (leads_ppath hw ha))
  have HB := Lib.hid hb
  have HS := Lib.hid (fun W (h : Below w.heap.size w W) => show W.cell? ⟨g, 5, none⟩ = some (.slice none 0 0) ∧ W.frozen? ⟨g, 5, none⟩ = false from ⟨(hb.below h hlt).cell 5, (hb.below h hlt).frozen 5⟩)
  generalize ppath xs a = p at *
  simp only [scells] at c0 c1
  have hwd : Below w.heap.size w w.drew := (Below.refl _ _).drew
  have hS := And.intro c0 c1
  clear hb hx hx' hw c0 c1
  go_enter Tryz.func93, Tryz.ntmps93
  go_wp2_with fail
  go_region_held3 (fun w' => w'.cell? ⟨g, 0, none⟩ = some (.slice A xs.length c) ∧ w'.cell? ⟨g, 1, none⟩ = some (.int .i64 (a : Int))) (first | exact hS | exact hS2 | exact hS3 _) (first
    | (go_at_call 28; refine (HO.out _ hwd).mono ?_; rintro e w1 ⟨hb1, KA, kc, rfl, hkc, hKA, hkr, hkf⟩; have hb1 := hwd.trans hb1; obtain ⟨s5, f5⟩ := HS.out _ hb1; have hS2 : w1.cell? ⟨g, 0, none⟩ = some (.slice A xs.length c) ∧ w1.cell? ⟨g, 1, none⟩ = some (.int .i64 (a : Int)) := ⟨(HB.out.below hb1 hlt).cell 0, (HB.out.below hb1 hlt).cell 1⟩; have hS3 : ∀ v, (w1.setCell ⟨g, 5, none⟩ v).cell? ⟨g, 0, none⟩ = some (.slice A xs.length c) ∧ (w1.setCell ⟨g, 5, none⟩ v).cell? ⟨g, 1, none⟩ = some (.int .i64 (a : Int)) := fun v => ⟨((HB.out.below hb1 hlt).set 5 v).cell 0, ((HB.out.below hb1 hlt).set 5 v).cell 1⟩))
  go_end0
  have hB1 := HB.out.below hb1 hlt
  refine ⟨rfl, ((Kept.refl (· = g) _).below hb1).setCell (p := ⟨g, 5, none⟩) (.inl rfl) _, KA, kc, hB1.set 5 _, ?_⟩
  exact NewRow.kept (S := (· = g)) ⟨hkc, hKA, hkr, hkf⟩ ((Kept.refl (· = g) _).setCell (p := ⟨g, 5, none⟩) (.inl rfl) _) (fun i hi e => by omega)

/-- What is asked first: the path is found. -/
def SlowEnds (g : Nat) (A : Option Addr) (c : Nat) (xs : List Nd) (a : Nat) (w : World) (e : Ending) (w' : World) : Prop :=
  e = .returned (.tuple #[]) ∧ Kept (· = g) w w' ∧ ∃ KA kc, Blk w' g 98 (scells A xs.length c a 1 0 (.slice KA (ppath xs a).length kc)) ∧ NewRow w' w.heap.size KA kc (ppath xs a)

set_option maxRecDepth 100000 in
set_option maxHeartbeats 1600000 in
theorem slow_any (g : Nat) (A : Option Addr) (c : Nat) (xs : List Nd) (a : Nat) (w : World) (hw : Whole xs) (ha : a < xs.length) (hl : xs.length ≤ 1000000)
    (hb : Blk w g 98 (scells A xs.length c a 0 0 (.slice none 0 0))) (hx : Nodes w g A xs) :
    Calls Tryz.prog 127 #[.pointer (some ⟨g, 2, none⟩), .func (.func 93) #[.pointer (some ⟨g, 0, none⟩)] #[]] w (SlowEnds g A c xs a w) := by
  have hlt := hb.lt
  have h2 : w.cell? ⟨g, 2, none⟩ = some (.int .u32 0) := hb.cell 2
  have h3 : w.cell? ⟨g, 3, none⟩ = some (.int .i32 0) := hb.cell 3
  have f3 := hb.frozen 3
  have hb1 : Blk (w.setCell ⟨g, 3, none⟩ (.int .i32 1)) g 98 (scells A xs.length c a 0 1 (.slice none 0 0)) := hb.set 3 _
  have hl2 := run_call_load (P := Tryz.prog) Tryz.func141 (by kernel_rfl) (by kernel_rfl) (by kernel_rfl) .u32 (by kernel_rfl) (w := w.setCell ⟨g, 3, none⟩ (.int .i32 1)) (a := ⟨g, 2, none⟩) (x := 0) (hb1.cell 2)
  have hnot : ∀ (x : Bool) (w : World), (Op.unary .not (.bool x)).run Tryz.prog w = .ok (.bool (!x)) w := fun _ _ => rfl
  have HF := Lib.hid (find_any g A c xs a 0 1 _ hw ha hl hb1 (hx.below ((Below.refl g w).setCell (p := ⟨g, 3, none⟩) (Nat.le_refl g) _)))
  have HK := Lib.hid ((Kept.refl (· = g) w).setCell (p := ⟨g, 3, none⟩) (.inl rfl) (.int .i32 1))
  have HW : Hid ((w.setCell ⟨g, 3, none⟩ (.int .i32 1)).heap.size = w.heap.size) := Lib.hid (by simp [World.setCell])
  unfold SlowEnds
  generalize ppath xs a = p at *
  clear hb hb1 hx hw
  go_enter_defers Tryz.func127, Tryz.ntmps127
  go_wp2_with (first | (go_at_call 142; refine (lock_free ⟨g, 3, none⟩ _ h3 f3).mono ?_; rintro e w' ⟨rfl, rfl⟩) | (go_at_call 126; go_in))
  refine HF.out.mono ?_
  rintro e w2 ⟨rfl, hk, KA, kc, hb2, hr2⟩
  have HB2 := Lib.hid hb2
  have HR2 := Lib.hid hr2
  have HK2 := Lib.hid (HK.out.trans hk)
  clear hl2 hnot h2 h3 f3 hk hb2 hr2
  go_wp2
  -- the door: two deferred calls, the last laid first
  refine leaves_cons (f := 144) (args := #[.pointer (some ⟨g, 2, none⟩), .bool true]) (by simp) (by simp [go_sem]) ?_
  refine (store_deferred ⟨g, 2, none⟩ (.int .u32 0) .returning _ (HB2.out.cell 2) (HB2.out.frozen 2)).mono ?_
  rintro e u' w'' ⟨rfl, rfl, rfl⟩
  have hb3 := (HB2.out.drew).set 2 (.int .u32 1)
  refine leaves_cons (f := 143) (args := #[.pointer (some ⟨g, 3, none⟩)]) (by simp [settle]) (by simp [go_sem]) ?_
  refine (unlock_deferred ⟨g, 3, none⟩ _ _ (hb3.cell 3) (hb3.frozen 3)).mono ?_
  rintro e u' w'' ⟨rfl, rfl, rfl⟩
  have hk4 : Kept (· = g) w2 ((w2.drew.setCell ⟨g, 2, none⟩ (.int .u32 1)).setCell ⟨g, 3, none⟩ (.int .i32 0)) := (((Kept.refl (· = g) w2).drew).setCell (p := ⟨g, 2, none⟩) (.inl rfl) _).setCell (p := ⟨g, 3, none⟩) (.inl rfl) _
  have hr2 := HR2.out
  rw [HW.out] at hr2
  exact ⟨_, results_none rfl _ _ _, rfl, HK2.out.trans hk4, KA, kc, hb3.set 3 _, hr2.kept hk4 (fun i hi e => by omega)⟩

set_option maxRecDepth 100000 in
theorem do_first (g : Nat) (A : Option Addr) (c : Nat) (xs : List Nd) (a : Nat) (w : World) (hw : Whole xs) (ha : a < xs.length) (hl : xs.length ≤ 1000000)
    (hb : Blk w g 98 (scells A xs.length c a 0 0 (.slice none 0 0))) (hx : Nodes w g A xs) :
    Calls Tryz.prog 92 #[.pointer (some ⟨g, 2, none⟩), .func (.func 93) #[.pointer (some ⟨g, 0, none⟩)] #[]] w (SlowEnds g A c xs a w) := by
  have hld := run_call_load (P := Tryz.prog) Tryz.func141 (by kernel_rfl) (by kernel_rfl) (by kernel_rfl) .u32 (by kernel_rfl) (w := w) (a := ⟨g, 2, none⟩) (x := 0) (hb.cell 2)
  have hnot : ∀ (x : Bool) (w : World), (Op.unary .not (.bool x)).run Tryz.prog w = .ok (.bool (!x)) w := fun _ _ => rfl
  have HS := Lib.hid (slow_any g A c xs a w hw ha hl hb hx)
  unfold SlowEnds at *
  generalize ppath xs a = p at *
  clear hb hx hw
  go_enter Tryz.func92, Tryz.ntmps92
  go_wp2_with (first | (go_at_call 127; refine HS.out.mono ?_; rintro e w' ⟨rfl, hq⟩) | (go_at_call 126; go_in))
  go_end0
  exact ⟨rfl, hq⟩

/-- A site that was asked. -/
def Asked (w : World) (g : Nat) (A : Option Addr) (c : Nat) (xs : List Nd) (a : Nat) (T : Nat → Prop) : Prop :=
  ∃ KA kc, Blk w g 98 (scells A xs.length c a 1 0 (.slice KA (ppath xs a).length kc)) ∧ (ppath xs a).length ≤ kc ∧ (KA = none → kc = 0) ∧ IRow w w.heap.size KA (ppath xs a) ∧ (ppath xs a ≠ [] → ∀ ad, KA = some ad → T ad.block)
theorem Asked.mono {w : World} {g : Nat} {A : Option Addr} {c : Nat} {xs : List Nd} {a : Nat} {T T' : Nat → Prop} (h : Asked w g A c xs a T) (hT : ∀ k, k < w.heap.size → T k → T' k) : Asked w g A c xs a T' := by
  obtain ⟨KA, kc, h1, h2, h3, h4, h5⟩ := h
  refine ⟨KA, kc, h1, h2, h3, h4, fun hp ad e => hT _ ?_ (h5 hp ad e)⟩
  obtain ⟨x, r, hx⟩ := ne_cons hp
  obtain ⟨ad', e', hb, -⟩ := h4 0 x (by rw [hx]; rfl)
  rw [e] at e'
  cases e'
  exact hb
theorem Asked.kept {S : Nat → Prop} {w w' : World} {g : Nat} {A : Option Addr} {c : Nat} {xs : List Nd} {a : Nat} {T : Nat → Prop} (h : Asked w g A c xs a T) (k : Kept S w w') (hg : ¬ S g) (hS : ∀ i, T i → ¬ S i) : Asked w' g A c xs a T := by
  obtain ⟨KA, kc, h1, h2, h3, h4, h5⟩ := h
  refine ⟨KA, kc, h1.kept k hg, h2, h3, ?_, h5⟩
  by_cases hp : ppath xs a = []
  · rw [hp]; intro i x hx; simp at hx
  · exact IRow.kept h4 k (fun ad e => hS _ (h5 hp ad e))
/-- A site that was not asked yet. -/
def Fresh (w : World) (g : Nat) (A : Option Addr) (c : Nat) (xs : List Nd) (a : Nat) : Prop := Blk w g 98 (scells A xs.length c a 0 0 (.slice none 0 0))
/-- What the path comes to: the caller's own list; the site was asked. -/
def PathTold (g : Nat) (A : Option Addr) (c : Nat) (xs : List Nd) (a : Nat) (T : Nat → Prop) (w : World) (e : Ending) (w' : World) : Prop :=
  Kept (· = g) w w' ∧ ∃ PA pc B, w.heap.size ≤ B ∧ e = .returned (.slice PA (ppath xs a).length pc) ∧ NewRow w' B PA pc (ppath xs a) ∧ Asked w' g A c xs a (fun k => (T k ∨ w.heap.size ≤ k) ∧ k < B)

set_option maxRecDepth 100000 in
set_option maxHeartbeats 1000000 in
theorem path_fresh (g : Nat) (A : Option Addr) (c : Nat) (xs : List Nd) (a : Nat) (w : World) (hw : Whole xs) (ha : a < xs.length) (hl : xs.length ≤ 1000000) (hp : (ppath xs a).length ≤ 1000000)
    (hb : Fresh w g A c xs a) (hx : Nodes w g A xs) :
    Calls Tryz.prog 58 #[.pointer (some ⟨g, 0, none⟩)] w (PathTold g A c xs a (fun _ => False) w) := by
  have hmf : ∀ (fn : Fn) (first cap : Array Value) (w : World), (Instr.makeFunc fn first cap).run Tryz.prog w = .ok (.func fn first cap) w := fun _ _ _ _ => rfl
  have HD := Lib.hid (do_first g A c xs a w hw ha hl hb hx)
  unfold SlowEnds at HD
  have HC := Lib.hid (fun KA kc W (h : IRow W W.heap.size KA (ppath xs a)) (hn : KA = none → kc = 0) => cloneInts_any KA kc (ppath xs a) W h hn hp)
  have hlt : g < w.heap.size := Blk.lt hb
  unfold PathTold Asked
  generalize ppath xs a = p at *
  clear hb hx hw hp
  go_enter Tryz.func58, Tryz.ntmps58
  go_wp2_with (first
    | (go_at_call 92; refine HD.out.mono ?_; rintro e w1 ⟨rfl, hk1, KA, kc, hb1, hkc, hKA, hkr, hkf⟩; have c5 := hb1.cell 5; simp only [scells] at c5; have hlt1 := hb1.lt)
    | (go_at_call 70; refine (HC.out KA kc w1 hkr hKA).mono ?_; rintro e w2 ⟨hb2, PA, pc, rfl, hpc, hPA, hpr, hpf⟩))
  go_ret
  refine ⟨hk1.below hb2, PA, pc, w1.heap.size, hk1.size, rfl, ⟨hpc, hPA, hpr, hpf⟩, KA, kc, hb1.below hb2 hlt1, hkc, hKA, hkr.at hb2, fun hp ad e => ⟨.inr (hkf ad e), ?_⟩⟩
  obtain ⟨x, r, hx⟩ := ne_cons hp
  obtain ⟨ad', e', hb, -⟩ := hkr 0 x (by rw [hx]; rfl)
  rw [e] at e'
  cases e'
  exact hb
set_option maxRecDepth 100000 in
set_option maxHeartbeats 1000000 in
theorem path_asked (g : Nat) (A : Option Addr) (c : Nat) (xs : List Nd) (a : Nat) (T : Nat → Prop) (w : World) (hp : (ppath xs a).length ≤ 1000000) (hq : Asked w g A c xs a T) :
    Calls Tryz.prog 58 #[.pointer (some ⟨g, 0, none⟩)] w (PathTold g A c xs a T w) := by
  have hmf : ∀ (fn : Fn) (first cap : Array Value) (w : World), (Instr.makeFunc fn first cap).run Tryz.prog w = .ok (.func fn first cap) w := fun _ _ _ _ => rfl
  have HC := Lib.hid (fun KA kc W (h : IRow W W.heap.size KA (ppath xs a)) (hn : KA = none → kc = 0) => cloneInts_any KA kc (ppath xs a) W h hn hp)
  unfold PathTold Asked at *
  generalize ppath xs a = p at *
  obtain ⟨KA, kc, hb1, hkc, hKA, hkr, hkf⟩ := hq
  have hlt1 := hb1.lt
  have c5 := hb1.cell 5
  have c2 := hb1.cell 2
  simp only [scells] at c5 c2
  have HB1 := Lib.hid hb1
  clear hp hb1
  go_enter Tryz.func58, Tryz.ntmps58
  go_wp2_with (first
    | (go_at_call 92; refine (do_done ⟨g, 2, none⟩ _ w c2).mono ?_; rintro e w1 ⟨rfl, rfl⟩)
    | (go_at_call 70; refine (HC.out KA kc w hkr hKA).mono ?_; rintro e w2 ⟨hb2, PA, pc, rfl, hpc, hPA, hpr, hpf⟩))
  go_ret
  refine ⟨(Kept.refl _ _).below hb2, PA, pc, w.heap.size, Nat.le_refl _, rfl, ⟨hpc, hPA, hpr, hpf⟩, KA, kc, HB1.out.below hb2 hlt1, hkc, hKA, hkr.at hb2, fun hp ad e => ⟨.inl (hkf hp ad e), ?_⟩⟩
  obtain ⟨x, r, hx⟩ := ne_cons hp
  obtain ⟨ad', e', hb, -⟩ := hkr 0 x (by rw [hx]; rfl)
  rw [e] at e'
  cases e'
  exact hb

end Go.Proofs.YtofhgaioidfdmaaGreat.Sites
