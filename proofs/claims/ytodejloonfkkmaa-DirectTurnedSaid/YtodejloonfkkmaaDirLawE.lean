/-
  The laws of layer 17, walked: a condition that is turned. (Written by tools/gen_dirturned.py.)
-/
import Derived.Test.YtodejloonfkkmaaDirLawA
import Derived.Test.YtodejloonfkkmaaDirTurn2
import Derived.Test.YtodejloonfkkmaaDirRow
import Derived.Test.YtodejloonfkkmaaMachFirst2
import Derived.Test.YtodejloonfkkmaaOrdersU
import Derived.Deep.CutBlock
import Derived.Deep.RegionHeld3
import Derived.Deep.DrawnRows
import Derived.Deep.AppendLies
set_option linter.unusedVariables false
set_option linter.unusedSimpArgs false
namespace Go.Proofs.Ytodejloonfkkmaa.Dir
open Go.RowKit Mem _root_.Go.Proofs.Ytodejloonfkkmaa.Arena _root_.Go.Proofs.Ytodejloonfkkmaa.Kinds _root_.Go.Proofs.Ytodejloonfkkmaa.Path _root_.Go.Proofs.Ytodejloonfkkmaa.Cat _root_.Go.Proofs.Ytodejloonfkkmaa.Suite _root_.Go.Proofs.Ytodejloonfkkmaa.Delta _root_.Go.Proofs.Ytodejloonfkkmaa.Mach
attribute [local go_sem ↓] Go.wp_at_zero Go.wp_at_succ

/-- What the two programs come to. -/
structure Twice (ps : Int) (vs args : List Int) (f : Int) (l C X Y : List Nd) (k2 k3 : Int) : Prop where
  x0 : l[0]? = some (20, 1)
  x1 : l[1]? = some (23, 0)
  kids : akids l 1 = [2, k2, k3]
  nC : ∃ x, C[0]? = some x
  nX : ∃ x, X[0]? = some x
  nY : ∃ x, Y[0]? = some x
  pC : apart l 2 = C
  pX : apart l k2 = X
  pY : apart l k3 = Y
  len : l.length = 2 + (C.length + (X.length + Y.length))
  one : mcheck ps vs l args.length f = 0
  two : mcheck ps vs ((20, 1) :: (23, 0) :: (6, 0) :: (C ++ (Y ++ X))) args.length (f + 1) = 0
  kind : (rrun ps vs l args f).kind = (rrun ps vs ((20, 1) :: (23, 0) :: (6, 0) :: (C ++ (Y ++ X))) args (f + 1)).kind
  value : (rrun ps vs l args f).value = (rrun ps vs ((20, 1) :: (23, 0) :: (6, 0) :: (C ++ (Y ++ X))) args (f + 1)).value
  steps : (rrun ps vs ((20, 1) :: (23, 0) :: (6, 0) :: (C ++ (Y ++ X))) args (f + 1)).steps = (rrun ps vs l args f).steps + 1
  ev : (rrun ps vs l args f).ev = (rrun ps vs ((20, 1) :: (23, 0) :: (6, 0) :: (C ++ (Y ++ X))) args (f + 1)).ev
theorem scan_ne {C : List Nd} (h : scan 1 C = some C.length) : ∃ x, C[0]? = some x := by
  cases C with
  | nil => rw [scan_nil] at h; cases h
  | cons x r => exact ⟨x, rfl⟩
theorem take_two {l : List Nd} {x y : Nd} (h0 : l[0]? = some x) (h1 : l[1]? = some y) : l.take 2 = [x, y] := by
  match l, h0, h1 with
  | _ :: _ :: _, h0, h1 => cases h0; cases h1; rfl
theorem twice_of {ps : Int} {vs args : List Int} {f N : Int} {r : List Nd} (h : mcheck ps vs ((20, 1) :: (23, N) :: r) args.length f = 0) (h2 : 2 ≤ f) (hf : f ≤ 9999) : ∃ C X Y k2 k3, Twice ps vs args f ((20, 1) :: (23, N) :: r) C X Y k2 k3 := by
  obtain ⟨C, X, Y, rfl, rfl, hC, hX, hY, h5, e1, e2, e3, e4⟩ := turned (mcheck_zero.1 h) h2 hf
  obtain ⟨p1, p2, p3, p4⟩ := three_parts hC hX hY
  have h5 := mcheck_zero.2 h5
  refine ⟨C, X, Y, _, _, rfl, rfl, p1, scan_ne hC, scan_ne hX, scan_ne hY, p2, p3, p4, by simp only [List.length_cons, List.length_append]; omega, h, h5, ?_, ?_, ?_, ?_⟩
  all_goals rw [rrun_ok h, rrun_ok h5]
  · exact e1
  · exact e2
  · exact e3
  · exact e4

set_option maxRecDepth 100000 in
set_option maxHeartbeats 16000000 in
theorem turned_main (K : DPkg) (hw : Works) (ps : Int) (A0 : Option Addr) (c0 : Nat) (vs : List Int) (adb : Addr) (ce : Nat) (l C X Y : List Nd) (k2 k3 : Int) (A : Option Addr) (c : Nat) (args : List Int) (hl : args.length ≤ c) (hA : A = none → c = 0) (f : Int) (hf : N64 f) (w : World) (hp : Prg.In (⟨ps, A0, c0, vs, some adb, ce, l⟩ : Prg) w) (hR : IRow w w.heap.size A args) (hfe : mfew (⟨ps, A0, c0, vs, some adb, ce, l⟩ : Prg) args.length f = true) (h2 : 2 ≤ f) (hT : Twice ps vs args f l C X Y k2 k3) :
    Calls Try.prog 4 #[.agg #[.int .i64 ps, .slice A0 vs.length c0, .slice (some adb) l.length ce], .slice A args.length c, .int .i64 f] w fun e w' => e = .returned (.bool true) ∧ Below w.heap.size w w' := by
  have hB0 : Below w.heap.size w (w.alloc (.cells #[.int .i64 ps, .slice A0 vs.length c0, .slice (some adb) l.length ce] 25)) := (Below.refl _ _).alloc (Nat.le_refl _) _
  have bX := Blk.new w 25 #[.int .i64 ps, .slice A0 vs.length c0, .slice (some adb) l.length ce]
  have hi := hp.at hB0
  have hr := hR.at hB0
  obtain ⟨wQ, hwQ⟩ : ∃ wQ, w.alloc (.cells #[.int .i64 ps, .slice A0 vs.length c0, .slice (some adb) l.length ce] 25) = wQ := ⟨_, rfl⟩
  rw [hwQ] at hB0 bX hi hr
  have hgl := bX.lt
  have HN := fun W (h : Below wQ.heap.size wQ W) => (show Prg.In (⟨ps, A0, c0, vs, some adb, ce, l⟩ : Prg) W from hi.at h).body
  have HNC := fun W (h : Below wQ.heap.size wQ W) => show W.cell? adb = some (.int .i64 20) ∧ W.cell? ⟨adb.block, adb.off + 1, none⟩ = some (.int .i64 1) ∧ W.cell? ⟨adb.block, adb.off + 2, none⟩ = some (.int .i64 23) ∧ W.cell? ⟨adb.block, adb.off + 2 + 1, none⟩ = some (.int .i64 0) from by
    obtain ⟨ad, e, -, n0, n1⟩ := HN W h 0 _ hT.x0
    obtain ⟨ad', e', -, n2, n3⟩ := HN W h 1 _ hT.x1
    cases e
    cases e'
    exact ⟨n0, n1, n2, n3⟩
  have HBX := Lib.hid (fun W (h : Below wQ.heap.size wQ W) => And.intro (bX.below h hgl).three (HNC W h))
  have HP := Lib.hid hi
  have HR := Lib.hid (fun W (h : Below wQ.heap.size wQ W) => hr.at h)
  have HWQ := Lib.hid hwQ
  have HW := Lib.hid (fun W => hw W)
  have HF := Lib.hid (fun W => (show Calls Try.prog 7 #[.agg #[.int .i64 ps, .slice A0 vs.length c0, .slice (some adb) l.length ce], .slice A args.length c, .int .i64 f] W (fun e w' => e = .returned (.bool (mfew (⟨ps, A0, c0, vs, some adb, ce, l⟩ : Prg) args.length f)) ∧ Below W.heap.size W w') from few17_any (⟨ps, A0, c0, vs, some adb, ce, l⟩ : Prg) A c args.length f W))
  clear hp hR bX hwQ hi hr HN HNC
  rw [hfe] at HF
  obtain ⟨m1, m2, q3, q4⟩ := mfew_ok hfe
  simp only at m1 m2
  have q1 : vs.length ≤ 1000000 := by omega
  have q2 : l.length ≤ 1000000 := by omega
  have hlen := hT.len
  have j1 : ¬ (l.length : Int) < 2 := by omega
  have j2 : ¬ f < 2 := by omega
  have j3 : (0 : Int) < (l.length : Int) := by omega
  have j4 : (1 : Int) < (l.length : Int) := by omega
  have HKI := Lib.hid (fun W (hb : Below wQ.heap.size wQ W) => show Calls Try.prog 13 #[.slice (some adb) l.length ce, .int .i64 1] W (IntsEnds [2, k2, k3] W) from by
    have := Kids_any (some adb) ce l 1 W (((HP.out.at hb).ok q1 q2).body) q2
    rw [hT.kids] at this
    exact this)
  have KD := Lib.hid (fun W (hb : Below wQ.heap.size wQ W) => show Calls Try.prog 8 #[.agg #[.int .i64 ps, .slice A0 vs.length c0, .slice (some adb) l.length ce], .slice A args.length c, .int .i64 f] W (RunEnds' (⟨ps, A0, c0, vs, some adb, ce, l⟩ : Prg) args f (rrun ps vs l args f) (mcheck ps vs l args.length f) W) from (K.run (⟨ps, A0, c0, vs, some adb, ce, l⟩ : Prg) A c args f W ((HP.out.at hb).ok q1 q2) (HR.out W hb) hl hA (by omega) hf).mono (RunEnds.open (⟨ps, A0, c0, vs, some adb, ce, l⟩ : Prg) args f W))
  rw [hT.one] at KD
  have HT := Lib.hid hT
  obtain ⟨s, hs0⟩ : ∃ s, rrun ps vs l args f = s := ⟨_, rfl⟩
  rw [hs0] at KD
  have HS0 := Lib.hid hs0
  clear hs0
  clear hT hfe hlen
  go_enter Try.func4, Try.ntmps4
  go_upto_region 10 with (first
    | (go_at_call 6; rw [HWQ.out]; (with_reducible refine (HW.out _).mono ?_); rintro e w2 ⟨rfl, hb2⟩; obtain ⟨⟨b0, b1, b2⟩, n0, n1, n2, n3⟩ := HBX.out _ hb2)
    | (go_at_call 7; (with_reducible refine (HF.out _).mono ?_); rintro e w3 ⟨rfl, hb⟩; have hb3 := hb2.trans (hb.mono hb2.size); obtain ⟨⟨b0, b1, b2⟩, n0, n1, n2, n3⟩ := HBX.out _ hb3)
    | (go_at_call 13; (with_reducible refine (HKI.out _ hb3).mono ?_); rintro e w4 ⟨hb, K4, cK, rfl, rk4, fk4⟩; have hb4 := hb3.trans (hb.mono hb3.size); obtain ⟨⟨b0, b1, b2⟩, n0, n1, n2, n3⟩ := HBX.out _ hb4)
    | (go_at_call 8; (with_reducible refine (KD.out _ hb4).mono ?_); rintro e w5 ⟨hb5, A1, c1, rfl, ok1⟩
       have rk4 := rk4.at hb5
       have bA := Blk.new w5 32 #[.int .i64 s.kind, .int .i64 s.value, .int .i64 s.steps, .slice A1 s.ev.length c1]
       have hbA : Below w5.heap.size w5 (w5.alloc (.cells #[.int .i64 s.kind, .int .i64 s.value, .int .i64 s.steps, .slice A1 s.ev.length c1] 32)) := (Below.refl _ _).alloc (Nat.le_refl _) _
       have ok1 := ok1.at hbA
       have rk4 := rk4.at hbA
       have hb6 := (hb4.trans (hb5.mono hb4.size)).trans (hbA.mono (hb4.trans (hb5.mono hb4.size)).size)
       obtain ⟨⟨b0, b1, b2⟩, n0, n1, n2, n3⟩ := HBX.out _ hb6)
    | fail)
  have bA6 : Blk (w5.alloc (.cells #[.int .i64 s.kind, .int .i64 s.value, .int .i64 s.steps, .slice A1 s.ev.length c1] 32)) w5.heap.size 32 #[.int .i64 s.kind, .int .i64 s.value, .int .i64 s.steps, .slice A1 s.ev.length c1] := bA
  have hg6 : w5.heap.size < (w5.alloc (.cells #[.int .i64 s.kind, .int .i64 s.value, .int .i64 s.steps, .slice A1 s.ev.length c1] 32)).heap.size := by simp
  obtain ⟨w6, hw6⟩ : ∃ w6, w5.alloc (.cells #[.int .i64 s.kind, .int .i64 s.value, .int .i64 s.steps, .slice A1 s.ev.length c1] 32) = w6 := ⟨_, rfl⟩
  rw [hw6] at ok1 hb6 bA6 hg6 b0 b1 b2 rk4 ⊢
  have HZ := Lib.hid (And.intro bA6 (And.intro ok1 hg6))
  obtain ⟨adk, hadk, -⟩ := rk4 0 2 rfl
  subst hadk
  have HKC := Lib.hid (fun W (h : Below w6.heap.size w6 W) => show W.cell? adk = some (.int .i64 2) ∧ W.cell? ⟨adk.block, adk.off + 1, none⟩ = some (.int .i64 k2) ∧ W.cell? ⟨adk.block, adk.off + 2, none⟩ = some (.int .i64 k3) from by
    have r := rk4.at h
    obtain ⟨a0, e0, -, r0⟩ := r 0 _ rfl
    obtain ⟨a1, e1, -, r1⟩ := r 1 _ rfl
    obtain ⟨a2, e2, -, r2⟩ := r 2 _ rfl
    cases e0
    cases e1
    cases e2
    exact ⟨r0, r1, r2⟩)
  have HL6 := Lib.hid (fun W (h : Below w6.heap.size w6 W) => HBX.out _ (hb6.trans (h.mono hb6.size)))
  have HPt := Lib.hid (fun (k : Int) (P : List Nd) (hP : apart l k = P) W (h : Below w6.heap.size w6 W) => show Calls Try.prog 14 #[.slice (some adb) l.length ce, .int .i64 k] W (NodesEnds P W) from by
    have hok := (HP.out.at (hb6.trans (h.mono hb6.size))).ok q1 q2
    have := Part_any (some adb) ce l k W hok.body hok.nb hok.ce q2
    rw [hP] at this
    exact this)
  have hO0 := World.ownsRow_lit (e := 39) (size := 2) (base := w6.heap.size) w6 #[] 0 (Nat.le_refl _) (by simp [maxLen]) (by simp)
  have hO0 : (w6.alloc (.cells #[] 39)).ownsRow w6.heap.size 39 2 (.slice (some ⟨w6.heap.size, 0, none⟩) 0 0) ([] : List Nd).length (ncells []) := hO0
  have hbL : Below w6.heap.size w6 (w6.alloc (.cells #[] 39)) := (Below.refl _ _).alloc (Nat.le_refl _) _
  obtain ⟨⟨b0, b1, b2⟩, n0, n1, n2, n3⟩ := HL6.out _ hbL
  have hk2 : ((2 : Nat) : Int) ≤ (ce : Int) := by have := ((HP.out.at hb6).ok q1 q2).ce; simp only at this; omega
  have k2c : (2 : Int) ≤ (ce : Int) := by omega
  have hN2 : Nodes (w6.alloc (.cells #[] 39)) (w6.alloc (.cells #[] 39)).heap.size (some adb) (l.take 2) := ((HP.out.at (hb6.trans (hbL.mono hb6.size))).ok q1 q2).body.front 2
  have hT2 : l.take 2 = [(20, 1), (23, 0)] := take_two HT.out.x0 HT.out.x1
  rw [hT2] at hN2
  clear bA hbA hw6 hb4 hb3 hb2 hb5 bA6 ok1 hg6 rk4 fk4 hT2 hk2
  generalize w5.heap.size = g5 at *
  go_upto_region 11 with (at_builtin; refine append_nodes rfl _ _ rfl w6.heap.size hbL.size (.slice (some ⟨w6.heap.size, 0, none⟩) 0 0) [] rfl hO0 _ (some adb) ce [(20, 1), (23, 0)] 2 rfl rfl (fun e => by cases e) hN2 (by simp) ?_; intro v7 w7 hown7 hgr hat)
  have hb7 := hbL.grown hgr hbL.size (fun i e => (hO0.lt i e).1)
  rw [List.nil_append] at hown7
  have hO7 := hown7.alloc (.cells #[.int .i64 6, .int .i64 0] 39)
  have hb8 := hb7.alloc hb7.size (.cells #[.int .i64 6, .int .i64 0] 39)
  have bN8 := Blk.new w7 39 #[.int .i64 6, .int .i64 0]
  have hN8 := Nodes.of_blk (xs := [(6, 0)]) bN8 bN8.lt
  clear hgr hat hown7 hO0 hbL hN2 bN8
  go_upto_region 12 with (at_builtin; refine append_nodes rfl _ _ rfl w6.heap.size hb8.size v7 [(20, 1), (23, 0)] rfl hO7 _ (some ⟨w7.heap.size, 0, none⟩) 1 [(6, 0)] 1 rfl rfl (fun e => by cases e) hN8 (by simp) ?_; intro v9 w9 hO9 hgr hat)
  have hb9 := hb8.grown hgr hb8.size (fun i e => (hO7.lt i e).1)
  have hO9 : w9.ownsRow w6.heap.size 39 2 v9 ([(20, 1), (23, 0), (6, 0)] : List Nd).length (ncells [(20, 1), (23, 0), (6, 0)]) := hO9
  clear hgr hat hO7 hb8 hN8 hb7
  obtain ⟨⟨b0, b1, b2⟩, n0, n1, n2, n3⟩ := HL6.out _ hb9
  obtain ⟨z0, z1, z2⟩ := HKC.out _ hb9
  have hC : (fun w' => w'.cell? ⟨w.heap.size, 2, none⟩ = some (.slice (some adb) l.length ce) ∧ w'.cell? adk = some (.int .i64 2)) w9.drew := ⟨b2, z0⟩
  clear b0 b1 n0 n1 n2 n3
  refine OrdU.wp_region_U 8 (fun w' => w'.cell? ⟨w.heap.size, 2, none⟩ = some (.slice (some adb) l.length ce) ∧ w'.cell? adk = some (.int .i64 2)) (by kernel_rfl) hC (fun hHeld => ?_)
  refine OrdU.wpAnyU_take (i := 0) (oi := ⟨some 77, _, _, _, _, none⟩) (v := ?_) rfl (by kernel_rfl) (by kernel_rfl) (by kernel_rfl) (by decide) (by kernel_rfl) (fun _ _ _ h => h) (Or.inl ⟨by rfl, ?_⟩) (by assumption) ?_
  rotate_left
  · intro w hSw; (try dsimp only at hSw); go_simp; try with_reducible rfl
  try simp only [Act.put, List.setIfInBounds_toArray, List.set_cons_zero, List.set_cons_succ]
  refine OrdU.wpAnyU_take (i := 1) (oi := ⟨some 78, _, _, _, _, none⟩) (v := ?_) rfl (by kernel_rfl) (by kernel_rfl) (by kernel_rfl) (by decide) (by kernel_rfl) (fun _ _ _ h => h) (Or.inl ⟨by rfl, ?_⟩) (by assumption) ?_
  rotate_left
  · intro w hSw; (try dsimp only at hSw); go_simp; try with_reducible rfl
  try simp only [Act.put, List.setIfInBounds_toArray, List.set_cons_zero, List.set_cons_succ]
  refine OrdU.wpAnyU_take (i := 2) (oi := ⟨some 79, _, _, _, _, none⟩) (v := ?_) rfl (by kernel_rfl) (by kernel_rfl) (by kernel_rfl) (by decide) (by kernel_rfl) (fun _ _ _ h => h) (Or.inl ⟨by rfl, ?_⟩) (by assumption) ?_
  rotate_left
  · intro w hSw; (try dsimp only at hSw); go_simp; try with_reducible rfl
  try simp only [Act.put, List.setIfInBounds_toArray, List.set_cons_zero, List.set_cons_succ]
  refine OrdU.wpAnyU_take (i := 3) (oi := ⟨some 80, _, _, _, _, none⟩) (v := ?_) rfl (by kernel_rfl) (by kernel_rfl) (by kernel_rfl) (by decide) (by kernel_rfl) (fun _ _ _ h => h) (Or.inl ⟨by rfl, ?_⟩) (by assumption) ?_
  rotate_left
  · intro w hSw; (try dsimp only at hSw); go_simp; try with_reducible rfl
  try simp only [Act.put, List.setIfInBounds_toArray, List.set_cons_zero, List.set_cons_succ]
  refine OrdU.wpAnyU_take (i := 4) (oi := ⟨some 81, _, _, _, _, none⟩) (v := ?_) rfl (by kernel_rfl) (by kernel_rfl) (by kernel_rfl) (by decide) (by kernel_rfl) (fun _ _ _ h => h) (Or.inl ⟨by rfl, ?_⟩) (by assumption) ?_
  rotate_left
  · intro w hSw; (try dsimp only at hSw); go_simp; try with_reducible rfl
  try simp only [Act.put, List.setIfInBounds_toArray, List.set_cons_zero, List.set_cons_succ]
  refine OrdU.wpAnyU_take (i := 5) (oi := ⟨some 82, _, _, _, _, none⟩) (v := ?_) rfl (by kernel_rfl) (by kernel_rfl) (by kernel_rfl) (by decide) (by kernel_rfl) (fun _ _ _ h => h) (Or.inl ⟨by rfl, ?_⟩) (by assumption) ?_
  rotate_left
  · intro w hSw; (try dsimp only at hSw); go_simp; try with_reducible rfl
  try simp only [Act.put, List.setIfInBounds_toArray, List.set_cons_zero, List.set_cons_succ]
  refine OrdU.wpAnyU_ready (rs := [6]) (by kernel_rfl) (by simp) ?_
  refine OrdU.AllReadyU.cons (o := ⟨some 83, _, _, _, _, none⟩) rfl (fun K' hK => ?_) OrdU.AllReadyU.nil
  go_simp
  go_at_call 14
  with_reducible refine (HPt.out 2 C HT.out.pC _ (hb9.trans ((Below.refl _ _).drew.mono hb9.size))).mono ?_
  rintro e w10 ⟨hbp, AP, cP, rfl, hcP, hAP, hNP⟩
  have hbp := (Below.refl w9.heap.size w9).drew.trans hbp
  have hO := own_of_block hO9 (fun i hi => hbp.block i (hO9.lt i hi).2)
  have hb10 := hb9.trans (hbp.mono hb9.size)
  obtain ⟨xP, hxP⟩ := HT.out.nC
  obtain ⟨adP, hadP, -⟩ := hNP 0 _ hxP
  subst hadP
  obtain ⟨⟨b0, b1, b2⟩, n0, n1, n2, n3⟩ := HL6.out _ hb10
  obtain ⟨z0, z1, z2⟩ := HKC.out _ hb10
  have hC : (fun w' => w'.cell? ⟨w.heap.size, 2, none⟩ = some (.slice (some adb) l.length ce) ∧ w'.cell? adk = some (.int .i64 2)) w10 := ⟨b2, z0⟩
  clear b0 b1 n0 n1 n2 n3
  go_wp2_with fail
  refine hK.out _ _ (fun _ => hC) (fun hHeld => ?_)
  replace hHeld := hHeld (by kernel_rfl)
  clear hK K'
  try simp only [Act.put, List.setIfInBounds_toArray, List.set_cons_zero, List.set_cons_succ]
  refine OrdU.wpAnyU_ready (rs := [7]) (by kernel_rfl) (by simp) ?_
  refine OrdU.AllReadyU.cons (o := ⟨some 84, _, _, _, _, none⟩) rfl (fun K' hK => ?_) OrdU.AllReadyU.nil
  refine step_append_nds (by rfl) _ _ (by rfl) w6.heap.size hb10.size v9 (([(20, 1), (23, 0), (6, 0)] : List Nd)) (by rfl) hO _ adP cP C C.length rfl (by rfl) hNP (by have := HT.out.len; simp; omega) ?_
  intro v12 w12 hO12 hgr hat
  have hb12 := hb10.grown hgr hb10.size (fun i e => (hO.lt i e).1)
  obtain ⟨⟨b0, b1, b2⟩, n0, n1, n2, n3⟩ := HL6.out _ hb12
  obtain ⟨z0, z1, z2⟩ := HKC.out _ hb12
  have hC : (fun w' => w'.cell? ⟨w.heap.size, 2, none⟩ = some (.slice (some adb) l.length ce) ∧ w'.cell? adk = some (.int .i64 2)) w12 := ⟨b2, z0⟩
  clear b0 b1 n0 n1 n2 n3
  refine hK.out _ _ (fun _ => hC) (fun hHeld => ?_)
  replace hHeld := hHeld (by kernel_rfl)
  clear hK K'
  try simp only [Act.put, List.setIfInBounds_toArray, List.set_cons_zero, List.set_cons_succ]
  refine OrdU.wpAnyU_ready (rs := [8]) (by kernel_rfl) (by simp) ?_
  refine OrdU.AllReadyU.cons (o := ⟨some 11, _, _, _, _, none⟩) rfl (fun K' hK => ?_) OrdU.AllReadyU.nil
  go_simp
  refine hK.out _ _ (OrdU.no (by kernel_rfl)) (fun _ => ?_)
  clear hK K'
  try simp only [Act.put, List.setIfInBounds_toArray, List.set_cons_zero, List.set_cons_succ]
  refine OrdU.wpAnyU_done (by kernel_rfl) ?_ _
  clear hO hgr hat hbp hNP hcP hAP hC z0 z1 z2 b2
  go_upto_region 13 with fail
  obtain ⟨⟨b0, b1, b2⟩, n0, n1, n2, n3⟩ := HL6.out _ hb12
  obtain ⟨z0, z1, z2⟩ := HKC.out _ hb12
  have hC : (fun w' => w'.cell? ⟨w.heap.size, 2, none⟩ = some (.slice (some adb) l.length ce) ∧ w'.cell? ⟨adk.block, adk.off + 2, none⟩ = some (.int .i64 k3)) w12.drew := ⟨b2, z2⟩
  clear b0 b1 n0 n1 n2 n3
  refine OrdU.wp_region_U 8 (fun w' => w'.cell? ⟨w.heap.size, 2, none⟩ = some (.slice (some adb) l.length ce) ∧ w'.cell? ⟨adk.block, adk.off + 2, none⟩ = some (.int .i64 k3)) (by kernel_rfl) hC (fun hHeld => ?_)
  refine OrdU.wpAnyU_take (i := 0) (oi := ⟨some 85, _, _, _, _, none⟩) (v := ?_) rfl (by kernel_rfl) (by kernel_rfl) (by kernel_rfl) (by decide) (by kernel_rfl) (fun _ _ _ h => h) (Or.inl ⟨by rfl, ?_⟩) (by assumption) ?_
  rotate_left
  · intro w hSw; (try dsimp only at hSw); go_simp; try with_reducible rfl
  try simp only [Act.put, List.setIfInBounds_toArray, List.set_cons_zero, List.set_cons_succ]
  refine OrdU.wpAnyU_take (i := 1) (oi := ⟨some 86, _, _, _, _, none⟩) (v := ?_) rfl (by kernel_rfl) (by kernel_rfl) (by kernel_rfl) (by decide) (by kernel_rfl) (fun _ _ _ h => h) (Or.inl ⟨by rfl, ?_⟩) (by assumption) ?_
  rotate_left
  · intro w hSw; (try dsimp only at hSw); go_simp; try with_reducible rfl
  try simp only [Act.put, List.setIfInBounds_toArray, List.set_cons_zero, List.set_cons_succ]
  refine OrdU.wpAnyU_take (i := 2) (oi := ⟨some 87, _, _, _, _, none⟩) (v := ?_) rfl (by kernel_rfl) (by kernel_rfl) (by kernel_rfl) (by decide) (by kernel_rfl) (fun _ _ _ h => h) (Or.inl ⟨by rfl, ?_⟩) (by assumption) ?_
  rotate_left
  · intro w hSw; (try dsimp only at hSw); go_simp; try with_reducible rfl
  try simp only [Act.put, List.setIfInBounds_toArray, List.set_cons_zero, List.set_cons_succ]
  refine OrdU.wpAnyU_take (i := 3) (oi := ⟨some 88, _, _, _, _, none⟩) (v := ?_) rfl (by kernel_rfl) (by kernel_rfl) (by kernel_rfl) (by decide) (by kernel_rfl) (fun _ _ _ h => h) (Or.inl ⟨by rfl, ?_⟩) (by assumption) ?_
  rotate_left
  · intro w hSw; (try dsimp only at hSw); go_simp; try with_reducible rfl
  try simp only [Act.put, List.setIfInBounds_toArray, List.set_cons_zero, List.set_cons_succ]
  refine OrdU.wpAnyU_take (i := 4) (oi := ⟨some 89, _, _, _, _, none⟩) (v := ?_) rfl (by kernel_rfl) (by kernel_rfl) (by kernel_rfl) (by decide) (by kernel_rfl) (fun _ _ _ h => h) (Or.inl ⟨by rfl, ?_⟩) (by assumption) ?_
  rotate_left
  · intro w hSw; (try dsimp only at hSw); go_simp; try with_reducible rfl
  try simp only [Act.put, List.setIfInBounds_toArray, List.set_cons_zero, List.set_cons_succ]
  refine OrdU.wpAnyU_take (i := 5) (oi := ⟨some 90, _, _, _, _, none⟩) (v := ?_) rfl (by kernel_rfl) (by kernel_rfl) (by kernel_rfl) (by decide) (by kernel_rfl) (fun _ _ _ h => h) (Or.inl ⟨by rfl, ?_⟩) (by assumption) ?_
  rotate_left
  · intro w hSw; (try dsimp only at hSw); go_simp; try with_reducible rfl
  try simp only [Act.put, List.setIfInBounds_toArray, List.set_cons_zero, List.set_cons_succ]
  refine OrdU.wpAnyU_ready (rs := [6]) (by kernel_rfl) (by simp) ?_
  refine OrdU.AllReadyU.cons (o := ⟨some 91, _, _, _, _, none⟩) rfl (fun K' hK => ?_) OrdU.AllReadyU.nil
  go_simp
  go_at_call 14
  with_reducible refine (HPt.out k3 Y HT.out.pY _ (hb12.trans ((Below.refl _ _).drew.mono hb12.size))).mono ?_
  rintro e w13 ⟨hbp, AP, cP, rfl, hcP, hAP, hNP⟩
  have hbp := (Below.refl w12.heap.size w12).drew.trans hbp
  have hO := own_of_block hO12 (fun i hi => hbp.block i (hO12.lt i hi).2)
  have hb13 := hb12.trans (hbp.mono hb12.size)
  obtain ⟨xP, hxP⟩ := HT.out.nY
  obtain ⟨adP, hadP, -⟩ := hNP 0 _ hxP
  subst hadP
  obtain ⟨⟨b0, b1, b2⟩, n0, n1, n2, n3⟩ := HL6.out _ hb13
  obtain ⟨z0, z1, z2⟩ := HKC.out _ hb13
  have hC : (fun w' => w'.cell? ⟨w.heap.size, 2, none⟩ = some (.slice (some adb) l.length ce) ∧ w'.cell? ⟨adk.block, adk.off + 2, none⟩ = some (.int .i64 k3)) w13 := ⟨b2, z2⟩
  clear b0 b1 n0 n1 n2 n3
  go_wp2_with fail
  refine hK.out _ _ (fun _ => hC) (fun hHeld => ?_)
  replace hHeld := hHeld (by kernel_rfl)
  clear hK K'
  try simp only [Act.put, List.setIfInBounds_toArray, List.set_cons_zero, List.set_cons_succ]
  refine OrdU.wpAnyU_ready (rs := [7]) (by kernel_rfl) (by simp) ?_
  refine OrdU.AllReadyU.cons (o := ⟨some 92, _, _, _, _, none⟩) rfl (fun K' hK => ?_) OrdU.AllReadyU.nil
  refine step_append_nds (by rfl) _ _ (by rfl) w6.heap.size hb13.size v12 (([(20, 1), (23, 0), (6, 0)] : List Nd) ++ C) (by rfl) hO _ adP cP Y Y.length rfl (by rfl) hNP (by have := HT.out.len; simp; omega) ?_
  intro v15 w15 hO15 hgr hat
  have hb15 := hb13.grown hgr hb13.size (fun i e => (hO.lt i e).1)
  obtain ⟨⟨b0, b1, b2⟩, n0, n1, n2, n3⟩ := HL6.out _ hb15
  obtain ⟨z0, z1, z2⟩ := HKC.out _ hb15
  have hC : (fun w' => w'.cell? ⟨w.heap.size, 2, none⟩ = some (.slice (some adb) l.length ce) ∧ w'.cell? ⟨adk.block, adk.off + 2, none⟩ = some (.int .i64 k3)) w15 := ⟨b2, z2⟩
  clear b0 b1 n0 n1 n2 n3
  refine hK.out _ _ (fun _ => hC) (fun hHeld => ?_)
  replace hHeld := hHeld (by kernel_rfl)
  clear hK K'
  try simp only [Act.put, List.setIfInBounds_toArray, List.set_cons_zero, List.set_cons_succ]
  refine OrdU.wpAnyU_ready (rs := [8]) (by kernel_rfl) (by simp) ?_
  refine OrdU.AllReadyU.cons (o := ⟨some 11, _, _, _, _, none⟩) rfl (fun K' hK => ?_) OrdU.AllReadyU.nil
  go_simp
  refine hK.out _ _ (OrdU.no (by kernel_rfl)) (fun _ => ?_)
  clear hK K'
  try simp only [Act.put, List.setIfInBounds_toArray, List.set_cons_zero, List.set_cons_succ]
  refine OrdU.wpAnyU_done (by kernel_rfl) ?_ _
  clear hO hgr hat hbp hNP hcP hAP hC z0 z1 z2 b2
  go_upto_region 14 with fail
  obtain ⟨⟨b0, b1, b2⟩, n0, n1, n2, n3⟩ := HL6.out _ hb15
  obtain ⟨z0, z1, z2⟩ := HKC.out _ hb15
  have hC : (fun w' => w'.cell? ⟨w.heap.size, 2, none⟩ = some (.slice (some adb) l.length ce) ∧ w'.cell? ⟨adk.block, adk.off + 1, none⟩ = some (.int .i64 k2)) w15.drew := ⟨b2, z1⟩
  clear b0 b1 n0 n1 n2 n3
  refine OrdU.wp_region_U 8 (fun w' => w'.cell? ⟨w.heap.size, 2, none⟩ = some (.slice (some adb) l.length ce) ∧ w'.cell? ⟨adk.block, adk.off + 1, none⟩ = some (.int .i64 k2)) (by kernel_rfl) hC (fun hHeld => ?_)
  refine OrdU.wpAnyU_take (i := 0) (oi := ⟨some 93, _, _, _, _, none⟩) (v := ?_) rfl (by kernel_rfl) (by kernel_rfl) (by kernel_rfl) (by decide) (by kernel_rfl) (fun _ _ _ h => h) (Or.inl ⟨by rfl, ?_⟩) (by assumption) ?_
  rotate_left
  · intro w hSw; (try dsimp only at hSw); go_simp; try with_reducible rfl
  try simp only [Act.put, List.setIfInBounds_toArray, List.set_cons_zero, List.set_cons_succ]
  refine OrdU.wpAnyU_take (i := 1) (oi := ⟨some 94, _, _, _, _, none⟩) (v := ?_) rfl (by kernel_rfl) (by kernel_rfl) (by kernel_rfl) (by decide) (by kernel_rfl) (fun _ _ _ h => h) (Or.inl ⟨by rfl, ?_⟩) (by assumption) ?_
  rotate_left
  · intro w hSw; (try dsimp only at hSw); go_simp; try with_reducible rfl
  try simp only [Act.put, List.setIfInBounds_toArray, List.set_cons_zero, List.set_cons_succ]
  refine OrdU.wpAnyU_take (i := 2) (oi := ⟨some 95, _, _, _, _, none⟩) (v := ?_) rfl (by kernel_rfl) (by kernel_rfl) (by kernel_rfl) (by decide) (by kernel_rfl) (fun _ _ _ h => h) (Or.inl ⟨by rfl, ?_⟩) (by assumption) ?_
  rotate_left
  · intro w hSw; (try dsimp only at hSw); go_simp; try with_reducible rfl
  try simp only [Act.put, List.setIfInBounds_toArray, List.set_cons_zero, List.set_cons_succ]
  refine OrdU.wpAnyU_take (i := 3) (oi := ⟨some 96, _, _, _, _, none⟩) (v := ?_) rfl (by kernel_rfl) (by kernel_rfl) (by kernel_rfl) (by decide) (by kernel_rfl) (fun _ _ _ h => h) (Or.inl ⟨by rfl, ?_⟩) (by assumption) ?_
  rotate_left
  · intro w hSw; (try dsimp only at hSw); go_simp; try with_reducible rfl
  try simp only [Act.put, List.setIfInBounds_toArray, List.set_cons_zero, List.set_cons_succ]
  refine OrdU.wpAnyU_take (i := 4) (oi := ⟨some 97, _, _, _, _, none⟩) (v := ?_) rfl (by kernel_rfl) (by kernel_rfl) (by kernel_rfl) (by decide) (by kernel_rfl) (fun _ _ _ h => h) (Or.inl ⟨by rfl, ?_⟩) (by assumption) ?_
  rotate_left
  · intro w hSw; (try dsimp only at hSw); go_simp; try with_reducible rfl
  try simp only [Act.put, List.setIfInBounds_toArray, List.set_cons_zero, List.set_cons_succ]
  refine OrdU.wpAnyU_take (i := 5) (oi := ⟨some 98, _, _, _, _, none⟩) (v := ?_) rfl (by kernel_rfl) (by kernel_rfl) (by kernel_rfl) (by decide) (by kernel_rfl) (fun _ _ _ h => h) (Or.inl ⟨by rfl, ?_⟩) (by assumption) ?_
  rotate_left
  · intro w hSw; (try dsimp only at hSw); go_simp; try with_reducible rfl
  try simp only [Act.put, List.setIfInBounds_toArray, List.set_cons_zero, List.set_cons_succ]
  refine OrdU.wpAnyU_ready (rs := [6]) (by kernel_rfl) (by simp) ?_
  refine OrdU.AllReadyU.cons (o := ⟨some 99, _, _, _, _, none⟩) rfl (fun K' hK => ?_) OrdU.AllReadyU.nil
  go_simp
  go_at_call 14
  with_reducible refine (HPt.out k2 X HT.out.pX _ (hb15.trans ((Below.refl _ _).drew.mono hb15.size))).mono ?_
  rintro e w16 ⟨hbp, AP, cP, rfl, hcP, hAP, hNP⟩
  have hbp := (Below.refl w15.heap.size w15).drew.trans hbp
  have hO := own_of_block hO15 (fun i hi => hbp.block i (hO15.lt i hi).2)
  have hb16 := hb15.trans (hbp.mono hb15.size)
  obtain ⟨xP, hxP⟩ := HT.out.nX
  obtain ⟨adP, hadP, -⟩ := hNP 0 _ hxP
  subst hadP
  obtain ⟨⟨b0, b1, b2⟩, n0, n1, n2, n3⟩ := HL6.out _ hb16
  obtain ⟨z0, z1, z2⟩ := HKC.out _ hb16
  have hC : (fun w' => w'.cell? ⟨w.heap.size, 2, none⟩ = some (.slice (some adb) l.length ce) ∧ w'.cell? ⟨adk.block, adk.off + 1, none⟩ = some (.int .i64 k2)) w16 := ⟨b2, z1⟩
  clear b0 b1 n0 n1 n2 n3
  go_wp2_with fail
  refine hK.out _ _ (fun _ => hC) (fun hHeld => ?_)
  replace hHeld := hHeld (by kernel_rfl)
  clear hK K'
  try simp only [Act.put, List.setIfInBounds_toArray, List.set_cons_zero, List.set_cons_succ]
  refine OrdU.wpAnyU_ready (rs := [7]) (by kernel_rfl) (by simp) ?_
  refine OrdU.AllReadyU.cons (o := ⟨some 100, _, _, _, _, none⟩) rfl (fun K' hK => ?_) OrdU.AllReadyU.nil
  refine step_append_nds (by rfl) _ _ (by rfl) w6.heap.size hb16.size v15 (([(20, 1), (23, 0), (6, 0)] : List Nd) ++ C ++ Y) (by rfl) hO _ adP cP X X.length rfl (by rfl) hNP (by have := HT.out.len; simp; omega) ?_
  intro v18 w18 hO18 hgr hat
  have hb18 := hb16.grown hgr hb16.size (fun i e => (hO.lt i e).1)
  obtain ⟨⟨b0, b1, b2⟩, n0, n1, n2, n3⟩ := HL6.out _ hb18
  obtain ⟨z0, z1, z2⟩ := HKC.out _ hb18
  have hC : (fun w' => w'.cell? ⟨w.heap.size, 2, none⟩ = some (.slice (some adb) l.length ce) ∧ w'.cell? ⟨adk.block, adk.off + 1, none⟩ = some (.int .i64 k2)) w18 := ⟨b2, z1⟩
  clear b0 b1 n0 n1 n2 n3
  refine hK.out _ _ (fun _ => hC) (fun hHeld => ?_)
  replace hHeld := hHeld (by kernel_rfl)
  clear hK K'
  try simp only [Act.put, List.setIfInBounds_toArray, List.set_cons_zero, List.set_cons_succ]
  refine OrdU.wpAnyU_ready (rs := [8]) (by kernel_rfl) (by simp) ?_
  refine OrdU.AllReadyU.cons (o := ⟨some 11, _, _, _, _, none⟩) rfl (fun K' hK => ?_) OrdU.AllReadyU.nil
  go_simp
  refine hK.out _ _ (OrdU.no (by kernel_rfl)) (fun _ => ?_)
  clear hK K'
  try simp only [Act.put, List.setIfInBounds_toArray, List.set_cons_zero, List.set_cons_succ]
  refine OrdU.wpAnyU_done (by kernel_rfl) ?_ _
  clear hO hgr hat hbp hNP hcP hAP hC z0 z1 z2 b2
  go_upto_region 15 with fail
  have hf9 : f ≤ 400 := by
    have := (mcheck_zero.1 HT.out.one).f1
    omega
  have T2 := HT.out.two
  have tk := HT.out.kind
  have tv := HT.out.value
  have tst := HT.out.steps
  have te := HT.out.ev
  have hst : ((rrun ps vs l args f).steps : Int) ≤ f := by
    rw [rrun_ok HT.out.one]
    have := run_steps vs l args f.toNat
    omega
  have hle := HT.out.len
  obtain ⟨R, hRR⟩ : ∃ R, (20, 1) :: (23, 0) :: (6, 0) :: (C ++ (Y ++ X)) = R := ⟨_, rfl⟩
  have hRl : R.length ≤ 1000000 := by rw [← hRR]; simp only [List.length_cons, List.length_append]; omega
  have eR : ([(20, 1), (23, 0), (6, 0)] : List Nd) ++ C ++ Y ++ X = R := by rw [← hRR]; simp
  rw [eR] at hO18
  rw [hRR] at T2 tk tv tst te
  rw [HS0.out] at tk tv tst te hst
  obtain ⟨AR, cR, rfl, hcR, hAR, hNR⟩ := own_nodes hO18
  have hb6' := hb6.trans (hb18.mono hb6.size)
  have jw : IntKind.i64.wrap (f + 1) = f + 1 := by rw [IntKind.wrap_i64]; omega
  have jw2 : IntKind.i64.wrap ((s.steps : Int) + 1) = (s.steps : Int) + 1 := by rw [IntKind.wrap_i64]; omega
  have K2 := Lib.hid (show Calls Try.prog 8 #[.agg #[.int .i64 ps, .slice A0 vs.length c0, .slice AR R.length cR], .slice A args.length c, .int .i64 (f + 1)] w18 (fun e w' => Below w18.heap.size w18 w' ∧ ∃ A2 c2, e = .returned (.tuple #[.agg #[.int .i64 s.kind, .int .i64 s.value, .int .i64 ((s.steps : Int) + 1), .slice A2 s.ev.length c2], .int .i64 0]) ∧ ERow w' w'.heap.size A2 s.ev) from by
    have hok := (HP.out.at hb6').ok q1 q2
    refine (K.run ⟨ps, A0, c0, vs, AR, cR, R⟩ A c args (f + 1) w18 ⟨hok.vars, hNR, hok.lv, hRl, hok.cv, hcR, hok.nv, hAR⟩ (HR.out w18 hb6') hl hA (by omega) ⟨by omega, by omega⟩).mono ?_
    rintro e w' ⟨hb, A2, c2, he, ok⟩
    refine ⟨hb, A2, c2, ?_, ?_⟩
    · rw [he]
      unfold rn Rn.val
      simp only
      rw [T2, ← tk, ← tv, ← te, tst]
      simp
    · have := ok.row
      unfold rn at this
      simp only at this
      rw [← te] at this
      exact this)
  have bA18 := HZ.out.1.below hb18 HZ.out.2.2
  have ok18 := HZ.out.2.1.at hb18
  obtain ⟨⟨b0, b1, b2⟩, n0, n1, n2, n3⟩ := HL6.out _ hb18
  clear hO18 hNR hcR hAR T2 tk tv tst te hst hle hRl hf9 n0 n1 n2 n3 hHeld
  go_wp2_with (first
    | (go_at_call 8; (with_reducible refine K2.out.mono ?_); rintro e w19 ⟨hb19, A2, c2, rfl, er2⟩
       have bB := Blk.new w19 32 #[.int .i64 s.kind, .int .i64 s.value, .int .i64 ((s.steps : Int) + 1), .slice A2 s.ev.length c2]
       have hbB : Below w19.heap.size w19 (w19.alloc (.cells #[.int .i64 s.kind, .int .i64 s.value, .int .i64 ((s.steps : Int) + 1), .slice A2 s.ev.length c2] 32)) := (Below.refl _ _).alloc (Nat.le_refl _) _
       have ok20 := (ok18.at hb19).at hbB
       have er2 := er2.at hbB
       have bA19 := bA18.below hb19 bA18.lt
       have bA20 := bA19.below hbB bA19.lt
       have hb20 := hb19.trans (hbB.mono hb19.size)
       obtain ⟨x0, x1, x2, x3⟩ := blk4 bA20
       obtain ⟨y0, y1, y2, y3⟩ := blk4 bB
       have EV : Calls Try.prog 15 #[.slice A1 s.ev.length c1, .slice A2 s.ev.length c2] (w19.alloc (.cells #[.int .i64 s.kind, .int .i64 s.value, .int .i64 ((s.steps : Int) + 1), .slice A2 s.ev.length c2] 32)) (fun e w' => e = .returned (.bool true) ∧ Below (w19.alloc (.cells #[.int .i64 s.kind, .int .i64 s.value, .int .i64 ((s.steps : Int) + 1), .slice A2 s.ev.length c2] 32)).heap.size (w19.alloc (.cells #[.int .i64 s.kind, .int .i64 s.value, .int .i64 ((s.steps : Int) + 1), .slice A2 s.ev.length c2] 32)) w') := by
         have := ref_Events_any A1 c1 s.ev A2 c2 s.ev _ ok20.row er2 ok20.len
         rw [decide_eq_true rfl] at this
         exact this
       have EV := Lib.hid EV)
    | (go_at_call 15; (with_reducible refine EV.out.mono ?_); rintro e w21 ⟨rfl, hb21⟩
       have bA21 := bA20.below hb21 bA20.lt
       have bB21 := bB.below hb21 bB.lt
       have hb21 := hb20.trans (hb21.mono hb20.size)
       obtain ⟨x0, x1, x2, x3⟩ := blk4 bA21
       obtain ⟨y0, y1, y2, y3⟩ := blk4 bB21)
    | fail)
  go_ret
  exact ⟨by simp, hB0.trans ((hb6'.trans (hb21.mono hb6'.size)).mono hB0.size)⟩

end Go.Proofs.Ytodejloonfkkmaa.Dir
